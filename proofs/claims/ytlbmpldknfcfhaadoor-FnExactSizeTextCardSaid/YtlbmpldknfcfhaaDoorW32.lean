/-
  impl.copyLine: the line is copied into the room that is left (or nowhere), its size is counted, it is cleared.
-/
import Derived.Test.YtlbmpldknfcfhaaDoorW31
import Derived.Lib.SliceRun
namespace Go.Proofs.YtlbmpldknfcfhaaDoor
open Go.RowKit
set_option linter.unusedVariables false
set_option linter.unusedSimpArgs false
namespace Pr
theorem u64_small {n : Int} (h0 : 0 ≤ n) (h : n ≤ 9000000000000000000) : IntKind.u64.wrap n = n := by
  simp [IntKind.wrap, IntKind.bits, IntKind.signed]; omega
theorem blk_cell {w W : World} {b j : Nat} (h : W.heap[b]? = w.heap[b]?) : W.cell? ⟨b, j, none⟩ = w.cell? ⟨b, j, none⟩ := by simp only [World.cell?, h]
theorem bv_at {L : List UInt8} {cur : Array Value} {n : Nat} (h : cur.toList.take n = J.bv L) {j : Nat} {v : Value} (hj : (J.bv L)[j]? = some v) : cur[j]? = some v := by
  rw [← h] at hj
  rw [List.getElem?_take] at hj
  split at hj
  · rw [← Array.getElem?_toList]; exact hj
  · cases hj
theorem bv_one (L : List UInt8) : ∀ v ∈ J.bv L, v.oneCell' = true := by
  intro v hv
  unfold J.bv at hv
  obtain ⟨b, _, rfl⟩ := List.mem_map.1 hv
  rfl
theorem bv_len (L : List UInt8) : (J.bv L).length = L.length := by simp [J.bv]
/-- The copy of the line. -/
theorem Rm.copied {base SB : Nat} {mode : Option (Nat × Nat)} {w : World} {T Ln : List UInt8} {rv : Value} {lg lc : Nat} {lcur : Array Value} (hr : Rm mode w rv T) (hlg : w.heap[lg]? = some (.cells lcur 5 (0, 0))) (hl : lcur.toList.take Ln.length = J.bv Ln) (hfit : ∀ g R, mode = some (g, R) → T.length + Ln.length ≤ R) (hn : 0 < Ln.length) :
    ∃ (ra : Option Addr) (m k : Nat) (W2 : World), rv = .slice ra m m ∧ k ≤ m ∧ m ≤ k + (m - k) ∧ (∀ ty, (Builtin.copy_ #[46, 46] ty #[rv, .slice (some ⟨lg, 0, none⟩) Ln.length lc]).run Tryd.prog w = .ok (.int .i64 (k : Int)) W2) ∧ (∀ i, (∀ R, mode ≠ some (i, R)) → W2.heap[i]? = w.heap[i]?) ∧ Fm base mode SB w W2 ∧ Rm mode W2 (.slice (if m = k then ra else Option.map (fun x => x.add k) ra) (m - k) (m - k)) (T ++ Ln) := by
  have hs1 : (Tryd.prog.info? 5).map (·.size) = some 1 := by
    obtain ⟨i0, hi, hz0, hz1, hz2⟩ := info_parts Tryd.info5
    rw [hi]; first | exact congrArg some hz1 | exact congrArg some hz2 | exact congrArg some (by simpa using hz1) | (simp [hz0, hz1, hz2])
  cases mode with
  | none =>
    have hr' : rv = .slice none 0 0 := hr
    subst hr'
    refine ⟨none, 0, 0, w, rfl, Nat.le_refl _, Nat.le_refl _, fun ty => ?_, fun _ _ => rfl, Fm.refl w, rfl⟩
    exact run_copy_none (P := Tryd.prog) w 46 46 ty 5 none (some ⟨lg, 0, none⟩) 0 0 Ln.length lc Tryd.underlying46 hs1 (by simp)
  | some x =>
    obtain ⟨g, R⟩ := x
    obtain ⟨h1, cur, off, h2, h3, h4, h5, h6⟩ := hr
    have hf := hfit g R rfl
    have ho : off = T.length := h6 (by omega)
    subst h5
    have hrun : ∀ ty, (Builtin.copy_ #[46, 46] ty #[.slice (some ⟨g, off, none⟩) (R - T.length) (R - T.length), .slice (some ⟨lg, 0, none⟩) Ln.length lc]).run Tryd.prog w = .ok (goInt (J.bv Ln).length) (w.setRow g (cur.toList.take off ++ J.bv Ln ++ cur.toList.drop (off + (J.bv Ln).length)).toArray) := fun ty =>
      run_copy_row (P := Tryd.prog) w 46 46 ty 5 g off (R - T.length) (R - T.length) ⟨lg, 0, none⟩ Ln.length lc cur 5 (J.bv Ln) Tryd.underlying46 hs1 h2 (by rw [bv_len]; exact (Nat.min_eq_left (by omega)).symm) (fun j v hj => by
        have := bv_at hl hj
        rw [show (⟨lg, 0, none⟩ : Addr).add j = ⟨lg, j, none⟩ by simp [Addr.add]; try omega]
        rw [cell_of_row w lg j lcur 5 (0, 0) hlg]; exact this) (by rw [bv_len, ho, h3]; exact hf) (bv_one Ln)
    have hNew := setRow_heap w g cur (cur.toList.take off ++ J.bv Ln ++ cur.toList.drop (off + (J.bv Ln).length)).toArray 5 (0, 0) h2
    have hcl : cur.toList.length = R := by rw [Array.length_toList]; exact h3
    refine ⟨some ⟨g, off, none⟩, R - T.length, Ln.length, w.setRow g (cur.toList.take off ++ J.bv Ln ++ cur.toList.drop (off + (J.bv Ln).length)).toArray, rfl, by omega, by omega, fun ty => by rw [hrun ty, bv_len]; rfl, fun i hi => setRow_other w g i _ (fun e => hi R (by rw [e])), Fm.room rfl h2 _, ?_⟩
    refine ⟨by rw [List.length_append]; exact hf, _, if R - T.length = Ln.length then off else off + Ln.length, hNew, ?_, ?_, ?_, ?_⟩
    · simp only [List.size_toArray, List.length_append, List.length_take, List.length_drop, bv_len]
      omega
    · rw [ho, List.length_append]
      show ((cur.toList.take T.length ++ J.bv Ln ++ cur.toList.drop (T.length + (J.bv Ln).length)).take (T.length + Ln.length)) = J.bv (T ++ Ln)
      rw [h4, bv_app, List.take_append_of_le_length (by rw [bv_len, List.length_append]; exact Nat.le_refl _)]
      exact List.take_of_length_le (by rw [bv_len, List.length_append]; exact Nat.le_refl _)
    · rw [List.length_append, Nat.sub_sub]
      split
      · rfl
      · simp [Addr.add]
        intro e
        rw [e] at hn
        simp at hn
    · intro hlt
      rw [List.length_append] at hlt ⊢
      rw [if_neg (by omega)]
      omega
/-- Cells of a row are written. -/
theorem row_setCells {g : Nat} {e : TypeId} : ∀ (ys : List Value) (o : Nat) (w : World) (cur : Array Value), w.heap[g]? = some (.cells cur e (0, 0)) → ∃ cur' : Array Value, (w.setCells g o ys).heap[g]? = some (.cells cur' e (0, 0)) ∧ cur'.size = cur.size
  | [], _, _, cur, h => ⟨cur, h, rfl⟩
  | y :: r, o, w, cur, h => by
    rw [World.setCells]
    obtain ⟨c, h1, h2⟩ := row_setCells r (o + 1) (w.setCell ⟨g, o, none⟩ y) (cur.setIfInBounds o y) (heap_setCell_same w g o cur e y h)
    exact ⟨c, h1, by simpa using h2⟩
theorem other_setCells {g i : Nat} (hi : i ≠ g) : ∀ (ys : List Value) (o : Nat) (w : World), (w.setCells g o ys).heap[i]? = w.heap[i]?
  | [], _, _ => rfl
  | y :: r, o, w => by rw [World.setCells]; exact (other_setCells hi r (o + 1) _).trans (heap_setCell_other w _ i y hi)
/-- Two blocks of their own. -/
theorem u8_ne {w : World} {SB lg : Nat} {xs : List Value} {c : Array Value} (ho : Own w SB 71 xs) (hl : w.heap[lg]? = some (.cells c 5 (0, 0))) : lg ≠ SB := fun e => by
  obtain ⟨c', q1, _⟩ := ho
  rw [← e, hl] at q1
  injection q1 with q1
  injection q1 with _ q2
  revert q2; decide

set_option maxRecDepth 100000 in
set_option maxHeartbeats 4000000 in
theorem copyLine_any {base SB I O : Nat} {mode : Option (Nat × Nat)} {w : World} {T Ln : List UInt8} {lv rv : Value} (h : Sh base mode w SB I O T Ln lv rv) (hn : 0 < Ln.length) (hbw : base ≤ w.heap.size) (hsz : T.length + Ln.length ≤ 100000000) (hfit : ∀ g R, mode = some (g, R) → T.length + Ln.length ≤ R) :
    Calls Tryd.prog 40 #[.pointer (some ⟨SB, 0, none⟩)] w fun e w' => e = .returned (.tuple #[]) ∧ ∃ lv' rv', Sh base mode w' SB I O (T ++ Ln) [] lv' rv' ∧ Fm base mode SB w w' := by
  obtain ⟨_, ⟨e0, e1⟩ | ⟨lg, lc, lcur, e1, l1, l2, l3, l4, l5, l6⟩⟩ := h.line
  · omega
  subst e1
  rw [Nat.mul_one] at l6
  have hlo := h.lo
  have hlt := h.own.lt
  have hlgs : lg ≠ SB := u8_ne h.own l2
  have hSBm : ∀ R, mode ≠ some (SB, R) := fun R e => by have := h.rlo SB R e; omega
  have hLGm : ∀ R, mode ≠ some (lg, R) := fun R e => by have := h.rlo lg R e; omega
  obtain ⟨ra, m, k, W2, e2, hk, hk2, hcp, hsame, F2, R2⟩ := Rm.copied (base := base) (SB := SB) (lc := lc) (w := w.drew) (h.room.keep fun _ _ _ => rfl) l2 l6 hfit hn
  subst e2
  have HSB2 : W2.heap[SB]? = w.heap[SB]? := hsame SB hSBm
  have HLG2 : W2.heap[lg]? = some (.cells lcur 5 (0, 0)) := (hsame lg hLGm).trans l2
  have O2 : Own W2 SB 71 [.int .u64 (I : Int), .int .u64 (O : Int), .int .u64 (T.length : Int), .slice (some ⟨lg, 0, none⟩) Ln.length lc, .slice ra m m] := by
    obtain ⟨c, q1, q2⟩ := h.own
    exact ⟨c, HSB2.trans q1, q2⟩
  have KR := hide (show ∀ W : World, W.heap[SB]? = w.heap[SB]? → W.cell? ⟨SB, 4, none⟩ = some (.slice ra m m) from fun W hW => (blk_cell hW).trans (h.own.cell 4))
  have KL := hide (show ∀ W : World, W.heap[SB]? = w.heap[SB]? → W.cell? ⟨SB, 3, none⟩ = some (.slice (some ⟨lg, 0, none⟩) Ln.length lc) from fun W hW => (blk_cell hW).trans (h.own.cell 3))
  have O3 : Own (W2.setCell ⟨SB, 4, none⟩ (.slice (if m = k then ra else Option.map (fun x => x.add k) ra) (m - k) (m - k))) SB 71 [.int .u64 (I : Int), .int .u64 (O : Int), .int .u64 (T.length : Int), .slice (some ⟨lg, 0, none⟩) Ln.length lc, .slice (if m = k then ra else Option.map (fun x => x.add k) ra) (m - k) (m - k)] := by
    have := O2.set 4 (.slice (if m = k then ra else Option.map (fun x => x.add k) ra) (m - k) (m - k))
    simpa using this
  have hz4 : W2.frozen? ⟨SB, 4, none⟩ = false := O2.frozen 4
  have hc4 : W2.cell? ⟨SB, 4, none⟩ = some (.slice ra m m) := O2.cell 4
  have L3 : (W2.setCell ⟨SB, 4, none⟩ (.slice (if m = k then ra else Option.map (fun x => x.add k) ra) (m - k) (m - k))).heap[lg]? = some (.cells lcur 5 (0, 0)) := (heap_setCell_other _ _ lg _ hlgs).trans HLG2
  have F3 : Fm base mode SB w (W2.setCell ⟨SB, 4, none⟩ (.slice (if m = k then ra else Option.map (fun x => x.add k) ra) (m - k) (m - k))) := (Fm.ofBelow ((Below.refl _ _).drew) hbw).trans (F2.trans (Fm.sheet W2 hlo 4 _))
  have R3 : Rm mode (W2.setCell ⟨SB, 4, none⟩ (.slice (if m = k then ra else Option.map (fun x => x.add k) ra) (m - k) (m - k))) (.slice (if m = k then ra else Option.map (fun x => x.add k) ra) (m - k) (m - k)) (T ++ Ln) := R2.keep fun g R e => heap_setCell_other _ _ g _ (fun e' => hSBm R (by rw [← show g = SB from e']; exact e))
  obtain ⟨n, hnn⟩ : ∃ n, n = Ln.length := ⟨_, rfl⟩
  rw [← hnn] at KL hn hsz hcp O3
  have HN := hide hnn
  have HO3 := hide O3
  have HL3 := hide L3
  have HF3 := hide F3
  have HR3 := hide R3
  have HCP := hide hcp
  have HRLO := hide h.rlo
  have l3' : n ≤ lc := by rw [hnn]; exact l3
  clear O2 O3 L3 F3 R3 F2 R2 hcp hsame h hnn l6 l3 hfit HLG2
  go_enter Tryd.func40, Tryd.ntmps40
  go_upto_region 0 with fail
  refine Z.region 17 (fun W => W.heap[SB]? = w.heap[SB]?) (by kernel_rfl) rfl (fun hHeld => ?_)
  refine Z.take (i := 0) (d := 2) (v := .pointer (some ⟨SB, 0, none⟩)) rfl rfl (by kernel_rfl) (by kernel_rfl) (by kernel_rfl) (by kernel_rfl) (fun _ _ _ h => h) (Or.inl ⟨by rfl, ?_⟩) hHeld ?_
  · intro w' hSw; go_simp
  simp only [Act.put, List.setIfInBounds_toArray, List.set_cons_zero, List.set_cons_succ]
  refine Z.take (i := 1) (d := 3) (v := .pointer (some ⟨SB, 0, none⟩)) rfl rfl (by kernel_rfl) (by kernel_rfl) (by kernel_rfl) (by kernel_rfl) (fun _ _ _ h => h) (Or.inl ⟨by rfl, ?_⟩) hHeld ?_
  · intro w' hSw; go_simp
  simp only [Act.put, List.setIfInBounds_toArray, List.set_cons_zero, List.set_cons_succ]
  refine Z.take (i := 2) (d := 4) (v := .pointer (some ⟨SB, 0, none⟩)) rfl rfl (by kernel_rfl) (by kernel_rfl) (by kernel_rfl) (by kernel_rfl) (fun _ _ _ h => h) (Or.inl ⟨by rfl, ?_⟩) hHeld ?_
  · intro w' hSw; go_simp
  simp only [Act.put, List.setIfInBounds_toArray, List.set_cons_zero, List.set_cons_succ]
  refine Z.take (i := 3) (d := 5) (v := .pointer (some ⟨SB, 4, none⟩)) rfl rfl (by kernel_rfl) (by kernel_rfl) (by kernel_rfl) (by kernel_rfl) (fun _ _ _ h => h) (Or.inl ⟨by rfl, ?_⟩) hHeld ?_
  · intro w' hSw; go_simp
  simp only [Act.put, List.setIfInBounds_toArray, List.set_cons_zero, List.set_cons_succ]
  refine Z.take (i := 4) (d := 6) (v := .slice ra m m) rfl rfl (by kernel_rfl) (by kernel_rfl) (by kernel_rfl) (by kernel_rfl) (fun _ _ _ h => h) (Or.inl ⟨by rfl, ?_⟩) hHeld ?_
  · intro w' hSw; have g1 := (unhide KR) _ hSw; go_simp
  simp only [Act.put, List.setIfInBounds_toArray, List.set_cons_zero, List.set_cons_succ]
  refine Z.take (i := 5) (d := 7) (v := .pointer (some ⟨SB, 0, none⟩)) rfl rfl (by kernel_rfl) (by kernel_rfl) (by kernel_rfl) (by kernel_rfl) (fun _ _ _ h => h) (Or.inl ⟨by rfl, ?_⟩) hHeld ?_
  · intro w' hSw; go_simp
  simp only [Act.put, List.setIfInBounds_toArray, List.set_cons_zero, List.set_cons_succ]
  refine Z.take (i := 6) (d := 8) (v := .pointer (some ⟨SB, 0, none⟩)) rfl rfl (by kernel_rfl) (by kernel_rfl) (by kernel_rfl) (by kernel_rfl) (fun _ _ _ h => h) (Or.inl ⟨by rfl, ?_⟩) hHeld ?_
  · intro w' hSw; go_simp
  simp only [Act.put, List.setIfInBounds_toArray, List.set_cons_zero, List.set_cons_succ]
  refine Z.take (i := 7) (d := 9) (v := .pointer (some ⟨SB, 4, none⟩)) rfl rfl (by kernel_rfl) (by kernel_rfl) (by kernel_rfl) (by kernel_rfl) (fun _ _ _ h => h) (Or.inl ⟨by rfl, ?_⟩) hHeld ?_
  · intro w' hSw; go_simp
  simp only [Act.put, List.setIfInBounds_toArray, List.set_cons_zero, List.set_cons_succ]
  refine Z.take (i := 8) (d := 10) (v := .slice ra m m) rfl rfl (by kernel_rfl) (by kernel_rfl) (by kernel_rfl) (by kernel_rfl) (fun _ _ _ h => h) (Or.inl ⟨by rfl, ?_⟩) hHeld ?_
  · intro w' hSw; have g1 := (unhide KR) _ hSw; go_simp
  simp only [Act.put, List.setIfInBounds_toArray, List.set_cons_zero, List.set_cons_succ]
  refine Z.take (i := 9) (d := 11) (v := .pointer (some ⟨SB, 0, none⟩)) rfl rfl (by kernel_rfl) (by kernel_rfl) (by kernel_rfl) (by kernel_rfl) (fun _ _ _ h => h) (Or.inl ⟨by rfl, ?_⟩) hHeld ?_
  · intro w' hSw; go_simp
  simp only [Act.put, List.setIfInBounds_toArray, List.set_cons_zero, List.set_cons_succ]
  refine Z.take (i := 10) (d := 12) (v := .pointer (some ⟨SB, 0, none⟩)) rfl rfl (by kernel_rfl) (by kernel_rfl) (by kernel_rfl) (by kernel_rfl) (fun _ _ _ h => h) (Or.inl ⟨by rfl, ?_⟩) hHeld ?_
  · intro w' hSw; go_simp
  simp only [Act.put, List.setIfInBounds_toArray, List.set_cons_zero, List.set_cons_succ]
  refine Z.take (i := 11) (d := 13) (v := .pointer (some ⟨SB, 3, none⟩)) rfl rfl (by kernel_rfl) (by kernel_rfl) (by kernel_rfl) (by kernel_rfl) (fun _ _ _ h => h) (Or.inl ⟨by rfl, ?_⟩) hHeld ?_
  · intro w' hSw; go_simp
  simp only [Act.put, List.setIfInBounds_toArray, List.set_cons_zero, List.set_cons_succ]
  refine Z.take (i := 12) (d := 14) (v := .slice (some ⟨lg, 0, none⟩) n lc) rfl rfl (by kernel_rfl) (by kernel_rfl) (by kernel_rfl) (by kernel_rfl) (fun _ _ _ h => h) (Or.inl ⟨by rfl, ?_⟩) hHeld ?_
  · intro w' hSw; have g1 := (unhide KL) _ hSw; go_simp
  simp only [Act.put, List.setIfInBounds_toArray, List.set_cons_zero, List.set_cons_succ]
  refine Z.ready (rs := [13]) (by kernel_rfl) (by simp) (Z.val_cons (i := 13) (d := 15) (v := .int .i64 (k : Int)) (w' := W2) rfl (by rfl) (fun K hK => ?_) (fun _ => HSB2) ?_ Z.All.nil)
  · exact wp_copy _ (.tmp 10) (.tmp 14) 46 46 rfl _ _ _ W2 rfl rfl (unhide HCP _) hK.out
  simp only [Act.put, List.setIfInBounds_toArray, List.set_cons_zero, List.set_cons_succ]
  refine Z.take (i := 14) (d := 16) (v := .slice (if m = k then ra else Option.map (fun x => x.add k) ra) (m - k) (m - k)) rfl rfl (by kernel_rfl) (by kernel_rfl) (by kernel_rfl) (by kernel_rfl) (fun _ _ _ h => h) (Or.inl ⟨by rfl, ?_⟩) HSB2 ?_
  · intro w' hSw; go_simp
  simp only [Act.put, List.setIfInBounds_toArray, List.set_cons_zero, List.set_cons_succ]
  refine Z.ready (rs := [15]) (by kernel_rfl) (by simp) (Z.val_cons (i := 15) (d := 17) (v := .pointer (some ⟨SB, 0, none⟩)) (w' := W2) rfl (by rfl) (fun K hK => ?_) (fun _ => HSB2) ?_ Z.All.nil)
  · go_simp
    exact hK.out
  simp only [Act.put, List.setIfInBounds_toArray, List.set_cons_zero, List.set_cons_succ]
  refine Z.take (i := 16) (d := 18) (v := .pointer (some ⟨SB, 4, none⟩)) rfl rfl (by kernel_rfl) (by kernel_rfl) (by kernel_rfl) (by kernel_rfl) (fun _ _ _ h => h) (Or.inl ⟨by rfl, ?_⟩) HSB2 ?_
  · intro w' hSw; go_simp
  simp only [Act.put, List.setIfInBounds_toArray, List.set_cons_zero, List.set_cons_succ]
  refine Z.last_at (w' := W2.setCell ⟨SB, 4, none⟩ (.slice (if m = k then ra else Option.map (fun x => x.add k) ra) (m - k) (m - k))) rfl (by kernel_rfl) (by rfl) (fun K hK => ?_) ?_
  · go_simp
    exact hK.out
  refine Z.done (by kernel_rfl) ?_ _
  clear KR KL HSB2 hz4 hc4 hHeld HCP
  generalize W2.setCell ⟨SB, 4, none⟩ (.slice (if m = k then ra else Option.map (fun x => x.add k) ra) (m - k) (m - k)) = W3 at *
  generalize (Value.slice (if m = k then ra else Option.map (fun x => x.add k) ra) (m - k) (m - k)) = nv at *
  clear hk hk2
  have HO3' := unhide HO3
  have hlt3 := HO3'.lt
  have K2 := hide (show ∀ W : World, W.heap[SB]? = W3.heap[SB]? → W.cell? ⟨SB, 2, none⟩ = some (.int .u64 (T.length : Int)) from fun W hW => (blk_cell hW).trans (HO3'.cell 2))
  have K3 := hide (show ∀ W : World, W.heap[SB]? = W3.heap[SB]? → W.cell? ⟨SB, 3, none⟩ = some (.slice (some ⟨lg, 0, none⟩) n lc) from fun W hW => (blk_cell hW).trans (HO3'.cell 3))
  have hz2 : W3.drew.frozen? ⟨SB, 2, none⟩ = false := HO3'.frozen 2
  have hc2 : W3.drew.cell? ⟨SB, 2, none⟩ = some (.int .u64 (T.length : Int)) := HO3'.cell 2
  obtain ⟨tl, htl⟩ : ∃ tl, tl = T.length := ⟨_, rfl⟩
  have HTL := hide htl
  rw [← htl] at hsz K2 hc2
  clear HO3' htl
  go_upto_region 1 with fail
  refine Z.region 13 (fun W => W.heap[SB]? = W3.heap[SB]?) (by kernel_rfl) rfl (fun hHeld => ?_)
  refine Z.take (i := 0) (d := 19) (v := .pointer (some ⟨SB, 0, none⟩)) rfl rfl (by kernel_rfl) (by kernel_rfl) (by kernel_rfl) (by kernel_rfl) (fun _ _ _ h => h) (Or.inl ⟨by rfl, ?_⟩) hHeld ?_
  · intro w' hSw; go_simp
  simp only [Act.put, List.setIfInBounds_toArray, List.set_cons_zero, List.set_cons_succ]
  refine Z.take (i := 1) (d := 20) (v := .pointer (some ⟨SB, 0, none⟩)) rfl rfl (by kernel_rfl) (by kernel_rfl) (by kernel_rfl) (by kernel_rfl) (fun _ _ _ h => h) (Or.inl ⟨by rfl, ?_⟩) hHeld ?_
  · intro w' hSw; go_simp
  simp only [Act.put, List.setIfInBounds_toArray, List.set_cons_zero, List.set_cons_succ]
  refine Z.take (i := 2) (d := 21) (v := .pointer (some ⟨SB, 2, none⟩)) rfl rfl (by kernel_rfl) (by kernel_rfl) (by kernel_rfl) (by kernel_rfl) (fun _ _ _ h => h) (Or.inl ⟨by rfl, ?_⟩) hHeld ?_
  · intro w' hSw; go_simp
  simp only [Act.put, List.setIfInBounds_toArray, List.set_cons_zero, List.set_cons_succ]
  refine Z.take (i := 3) (d := 22) (v := .int .u64 (tl : Int)) rfl rfl (by kernel_rfl) (by kernel_rfl) (by kernel_rfl) (by kernel_rfl) (fun _ _ _ h => h) (Or.inl ⟨by rfl, ?_⟩) hHeld ?_
  · intro w' hSw; have g1 := (unhide K2) _ hSw; go_simp
  simp only [Act.put, List.setIfInBounds_toArray, List.set_cons_zero, List.set_cons_succ]
  refine Z.take (i := 4) (d := 23) (v := .pointer (some ⟨SB, 0, none⟩)) rfl rfl (by kernel_rfl) (by kernel_rfl) (by kernel_rfl) (by kernel_rfl) (fun _ _ _ h => h) (Or.inl ⟨by rfl, ?_⟩) hHeld ?_
  · intro w' hSw; go_simp
  simp only [Act.put, List.setIfInBounds_toArray, List.set_cons_zero, List.set_cons_succ]
  refine Z.take (i := 5) (d := 24) (v := .pointer (some ⟨SB, 0, none⟩)) rfl rfl (by kernel_rfl) (by kernel_rfl) (by kernel_rfl) (by kernel_rfl) (fun _ _ _ h => h) (Or.inl ⟨by rfl, ?_⟩) hHeld ?_
  · intro w' hSw; go_simp
  simp only [Act.put, List.setIfInBounds_toArray, List.set_cons_zero, List.set_cons_succ]
  refine Z.take (i := 6) (d := 25) (v := .pointer (some ⟨SB, 3, none⟩)) rfl rfl (by kernel_rfl) (by kernel_rfl) (by kernel_rfl) (by kernel_rfl) (fun _ _ _ h => h) (Or.inl ⟨by rfl, ?_⟩) hHeld ?_
  · intro w' hSw; go_simp
  simp only [Act.put, List.setIfInBounds_toArray, List.set_cons_zero, List.set_cons_succ]
  refine Z.take (i := 7) (d := 26) (v := .slice (some ⟨lg, 0, none⟩) n lc) rfl rfl (by kernel_rfl) (by kernel_rfl) (by kernel_rfl) (by kernel_rfl) (fun _ _ _ h => h) (Or.inl ⟨by rfl, ?_⟩) hHeld ?_
  · intro w' hSw; have g1 := (unhide K3) _ hSw; go_simp
  simp only [Act.put, List.setIfInBounds_toArray, List.set_cons_zero, List.set_cons_succ]
  refine Z.take (i := 8) (d := 27) (v := .int .i64 (n : Int)) rfl rfl (by kernel_rfl) (by kernel_rfl) (by kernel_rfl) (by kernel_rfl) (fun _ _ _ h => h) (Or.inl ⟨by rfl, ?_⟩) hHeld ?_
  · intro w' hSw; go_simp
  simp only [Act.put, List.setIfInBounds_toArray, List.set_cons_zero, List.set_cons_succ]
  refine Z.take (i := 9) (d := 28) (v := .int .u64 (n : Int)) rfl rfl (by kernel_rfl) (by kernel_rfl) (by kernel_rfl) (by kernel_rfl) (fun _ _ _ h => h) (Or.inl ⟨by rfl, ?_⟩) hHeld ?_
  · intro w' hSw; go_simp; exact u64_small (by omega) (by omega)
  simp only [Act.put, List.setIfInBounds_toArray, List.set_cons_zero, List.set_cons_succ]
  refine Z.take (i := 10) (d := 29) (v := .int .u64 ((tl : Int) + (n : Int))) rfl rfl (by kernel_rfl) (by kernel_rfl) (by kernel_rfl) (by kernel_rfl) (fun _ _ _ h => h) (Or.inl ⟨by rfl, ?_⟩) hHeld ?_
  · intro w' hSw; go_simp; exact u64_small (by omega) (by omega)
  simp only [Act.put, List.setIfInBounds_toArray, List.set_cons_zero, List.set_cons_succ]
  refine Z.ready (rs := [11]) (by kernel_rfl) (by simp) (Z.val_cons (i := 11) (d := 30) (v := .pointer (some ⟨SB, 0, none⟩)) (w' := W3.drew) rfl (by rfl) (fun K hK => ?_) (fun _ => hHeld) ?_ Z.All.nil)
  · go_simp
    exact hK.out
  simp only [Act.put, List.setIfInBounds_toArray, List.set_cons_zero, List.set_cons_succ]
  refine Z.take (i := 12) (d := 31) (v := .pointer (some ⟨SB, 2, none⟩)) rfl rfl (by kernel_rfl) (by kernel_rfl) (by kernel_rfl) (by kernel_rfl) (fun _ _ _ h => h) (Or.inl ⟨by rfl, ?_⟩) hHeld ?_
  · intro w' hSw; go_simp
  simp only [Act.put, List.setIfInBounds_toArray, List.set_cons_zero, List.set_cons_succ]
  obtain ⟨W4, hW4⟩ : ∃ W4, W4 = (W3.setCell ⟨SB, 2, none⟩ (.int .u64 ((tl : Int) + (n : Int)))).drew := ⟨_, rfl⟩
  refine Z.last_at (w' := W4) rfl (by kernel_rfl) (by rfl) (fun K hK => ?_) ?_
  · go_simp
    rw [← hW4]
    exact hK.out
  refine Z.done (by kernel_rfl) ?_ _
  have O4 : Own W4 SB 71 [.int .u64 (I : Int), .int .u64 (O : Int), .int .u64 ((tl : Int) + (n : Int)), .slice (some ⟨lg, 0, none⟩) n lc, nv] := by
    rw [hW4]
    have := (unhide HO3).set 2 (.int .u64 ((tl : Int) + (n : Int)))
    rw [← unhide HTL] at this
    show Own (W3.setCell ⟨SB, 2, none⟩ (.int .u64 ((tl : Int) + (n : Int)))) SB 71 _
    simpa using this
  have L4 : W4.heap[lg]? = some (.cells lcur 5 (0, 0)) := by rw [hW4]; exact (heap_setCell_other _ _ lg _ hlgs).trans (unhide HL3)
  have F4 : Fm base mode SB w W4 := (unhide HF3).trans (by rw [hW4]; exact (Fm.sheet _ hlo 2 _).trans (Fm.ofBelow ((Below.refl _ _).drew) (by have := (unhide HF3).size; simpa using Nat.le_trans hbw this)))
  have R4 : Rm mode W4 nv (T ++ Ln) := (unhide HR3).keep fun g R e => by rw [hW4]; exact heap_setCell_other _ _ g _ (fun e' => hSBm R (by rw [← show g = SB from e']; exact e))
  clear hW4 hHeld K2 K3 hz2 hc2 HO3 HL3 HF3 HR3 hlt3
  obtain ⟨W5, hW5⟩ : ∃ W5, W5 = W4.setCells lg 0 (List.replicate n (.int .u8 0)) := ⟨_, rfl⟩
  have HCLR := hide (show ∀ ty, (Builtin.clear_ #[46] ty #[.slice (some ⟨lg, 0, none⟩) n lc]).run Tryd.prog W4 = .ok (.tuple #[]) W5 from fun ty => by
    rw [hW5]
    refine Lib.run_clear_slice (P := Tryd.prog) W4 46 5 ty (.int .u8 0) Tryd.underlying46 (fun w => ?_) rfl rfl lg 0 n lc hn (fun j hj => ?_) (fun j hj => ?_)
    · go_simp
    · rw [Nat.zero_add, cell_of_row W4 lg j lcur 5 (0, 0) L4]
      have : j < lcur.size := by omega
      simp [this]
    · rw [Nat.zero_add]
      simp [World.frozen?, L4])
  have g3 : W4.cell? ⟨SB, 3, none⟩ = some (.slice (some ⟨lg, 0, none⟩) n lc) := O4.cell 3
  have O5 : Own W5 SB 71 [.int .u64 (I : Int), .int .u64 (O : Int), .int .u64 ((tl : Int) + (n : Int)), .slice (some ⟨lg, 0, none⟩) n lc, nv] := by
    obtain ⟨c, q1, q2⟩ := O4
    exact ⟨c, by rw [hW5]; exact (other_setCells (Ne.symm hlgs) _ _ _).trans q1, q2⟩
  obtain ⟨lcur5, L5, L5s⟩ := row_setCells (List.replicate n (.int .u8 0)) 0 W4 lcur L4
  rw [← hW5] at L5
  have F5 : Fm base mode SB w W5 := F4.trans (by rw [hW5]; exact Fm.bytes l1 L4 _)
  have R5 : Rm mode W5 nv (T ++ Ln) := R4.keep fun g R e => by rw [hW5]; exact other_setCells (fun e' => hLGm R (by rw [← e']; exact e)) _ _ _
  have c3 : W5.cell? ⟨SB, 3, none⟩ = some (.slice (some ⟨lg, 0, none⟩) n lc) := O5.cell 3
  have z3 : W5.frozen? ⟨SB, 3, none⟩ = false := O5.frozen 3
  have O6 : Own (W5.setCell ⟨SB, 3, none⟩ (.slice (some ⟨lg, 0, none⟩) 0 lc)) SB 71 [.int .u64 (I : Int), .int .u64 (O : Int), .int .u64 ((tl : Int) + (n : Int)), .slice (some ⟨lg, 0, none⟩) 0 lc, nv] := by
    have := O5.set 3 (.slice (some ⟨lg, 0, none⟩) 0 lc)
    simpa using this
  have FIN := hide (show Sh base mode (W5.setCell ⟨SB, 3, none⟩ (.slice (some ⟨lg, 0, none⟩) 0 lc)) SB I O (T ++ Ln) [] (.slice (some ⟨lg, 0, none⟩) 0 lc) nv ∧ Fm base mode SB w (W5.setCell ⟨SB, 3, none⟩ (.slice (some ⟨lg, 0, none⟩) 0 lc)) from by
    refine ⟨⟨?_, ?_, hlo, unhide HRLO, R5.keep fun g R e => heap_setCell_other _ _ g _ (fun e' => hSBm R (by rw [← show g = SB from e']; exact e))⟩, F5.trans (Fm.sheet _ hlo 3 _)⟩
    · have e : ((T ++ Ln).length : Int) = (tl : Int) + (n : Int) := by rw [unhide HTL, unhide HN, List.length_append]; omega
      rw [e]; exact O6
    · exact ⟨rfl, .inr ⟨lg, lc, lcur5, rfl, l1, (heap_setCell_other _ _ lg _ hlgs).trans L5, Nat.zero_le _, l4, by rw [L5s]; exact l5, by simp; rfl⟩⟩)
  clear O4 L4 F4 R4 O5 L5 F5 R5 O6 hW5 L5s lcur5
  have g1 := unhide HCLR
  go_wp2_with fail
  go_end0
  exact ⟨rfl, _, _, unhide FIN⟩
end Pr
end Go.Proofs.YtlbmpldknfcfhaaDoor
