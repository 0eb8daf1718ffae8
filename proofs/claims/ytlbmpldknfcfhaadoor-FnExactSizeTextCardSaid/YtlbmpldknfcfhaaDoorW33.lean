/-
  A byte (or more) laid on the line; impl.beginLine.
-/
import Derived.Test.YtlbmpldknfcfhaaDoorW32
namespace Go.Proofs.YtlbmpldknfcfhaaDoor
open Go.RowKit
set_option linter.unusedVariables false
set_option linter.unusedSimpArgs false
namespace Pr
/-- What is appended to the line lies in the sheet: before the store, and behind it. -/
theorem Sh.pushed {base SB I O : Nat} {mode : Option (Nat × Nat)} {w wa w' : World} {T Ln Y : List UInt8} {lv rv v' : Value} (h : Sh base mode w SB I O T Ln lv rv) (hbw : base ≤ w.heap.size) (B : Bk base w wa) (ho : w'.ownsRow base 5 1 v' (Ln ++ Y).length (J.bv (Ln ++ Y))) (hg : wa.grownBy w' lv.ownBlock) (hrow : wa.ownsRow base 5 1 lv Ln.length (J.bv Ln)) :
    Bk base w w' ∧ w'.cell? ⟨SB, 3, none⟩ = some lv ∧ w'.frozen? ⟨SB, 3, none⟩ = false ∧ Sh base mode (w'.setCell ⟨SB, 3, none⟩ v') SB I O T (Ln ++ Y) v' rv ∧ Fm base mode SB w (w'.setCell ⟨SB, 3, none⟩ v') := by
  have B1 : Bk base w w' := B.grown hg (Nat.le_trans hbw B.1.size) (J.owns_base hrow) (J.owns_row hrow)
  have O1 := B1.own h.own (by decide)
  exact ⟨B1, O1.cell 3, O1.frozen 3, h.lined B1 ho, (Fm.ofBk B1).trans (Fm.sheet _ h.lo 3 _)⟩
theorem Sh.shaped {base SB I O : Nat} {mode : Option (Nat × Nat)} {w : World} {T Ln : List UInt8} {lv rv : Value} (h : Sh base mode w SB I O T Ln lv rv) : ∃ a n c, lv = .slice a n c := owns_shape h.line
theorem mul_small {I O : Nat} (hI : I ≤ 8) (hO : O ≤ 201) : IntKind.u64.wrap ((I : Int) * (O : Int)) = ((I * O : Nat) : Int) := by
  have := mul_bd hI hO
  rw [← Int.natCast_mul]
  exact u64_small (Int.natCast_nonneg _) (by omega)

set_option maxRecDepth 100000 in
set_option maxHeartbeats 4000000 in
theorem beginLine_any {base SB I O : Nat} {mode : Option (Nat × Nat)} {w : World} {T Ln : List UInt8} {lv rv : Value} (h : Sh base mode w SB I O T Ln lv rv) (hI : I ≤ 8) (hO : O ≤ 201) (hbw : base ≤ w.heap.size) (hsz : T.length + Ln.length + 1 ≤ 100000000) (hfit : ∀ g R, mode = some (g, R) → T.length + Ln.length + 1 ≤ R) :
    Calls Tryd.prog 62 #[.pointer (some ⟨SB, 0, none⟩)] w fun e w' => e = .returned (.tuple #[]) ∧ ∃ lv' rv', Sh base mode w' SB I O (T ++ (Ln ++ [10])) (List.replicate (I * O) 32) lv' rv' ∧ Fm base mode SB w w' := by
  obtain ⟨i0, hi, hz0, hz1, hz2⟩ := info_parts Tryd.info5
  obtain ⟨la, ln, lc, rfl⟩ := h.shaped
  have c3 : w.cell? ⟨SB, 3, none⟩ = some (.slice la ln lc) := h.own.cell 3
  have hown1 := hide (fun o => h.line.alloc o)
  have hone := hide (J.one_word w 10)
  have honep := hide (J.one_plain 10)
  have hb63 : Ln.length + 1 ≤ maxLen := by unfold maxLen; omega
  have hby : (Ln.length + 1) * 1 ≤ 140737488355328 := by omega
  have HSH := hide h
  have hlo := h.lo
  clear h
  go_enter Tryd.func62, Tryd.ntmps62
  go_wp2_with (at_builtin; refine wpList_append_own _ rfl (.tmp 6) (.tmp 7) 46 rfl base 5 i0 (.int .u8 0) 1 1 Tryd.underlying46 hi hz0 hz1 hz2 rfl (by decide) _ Ln.length _ rfl ((unhide hown1) _) ⟨w.heap.size, 0, none⟩ 1 1 [.int .u8 10] rfl rfl (unhide hone) (unhide honep) hb63 hby (by simp; omega) ?_)
  intro v1 w1 ho1 hg1 _
  have ho1' : w1.ownsRow base 5 1 v1 (Ln ++ [10]).length (J.bv (Ln ++ [10])) := by rw [List.length_append, ← J.bv_snoc]; exact ho1
  obtain ⟨B1, c31, z31, S1, F1⟩ := (unhide HSH).pushed hbw ((Bk.refl _ _).alloc hbw _) ho1' hg1 ((unhide hown1) _)
  obtain ⟨xa1, xn1, xc1, rfl⟩ := owns_shape ho1
  have HC1 := hide (copyLine_any S1 (by simp) (Nat.le_trans hbw F1.size) (by rw [List.length_append]; exact hsz) (fun g R e => by rw [List.length_append]; exact hfit g R e))
  have HF1 := hide F1
  clear hg1 ho1 ho1' hown1 hone honep hb63 hby S1 F1 B1 c3 HSH
  go_wp2_with fail
  refine (unhide HC1).mono ?_
  rintro e w2 ⟨rfl, lv2, rv2, S2, F2⟩
  obtain ⟨a2, n2, c2, rfl⟩ := S2.shaped
  have F12 := hide ((unhide HF1).trans F2)
  have hb2 : base ≤ w2.heap.size := Nat.le_trans hbw (unhide F12).size
  have K0 := hide (show ∀ W : World, W.heap[SB]? = w2.heap[SB]? → W.cell? ⟨SB, 0, none⟩ = some (.int .u64 (I : Int)) from fun W hW => (blk_cell hW).trans (S2.own.cell 0))
  have K1 := hide (show ∀ W : World, W.heap[SB]? = w2.heap[SB]? → W.cell? ⟨SB, 1, none⟩ = some (.int .u64 (O : Int)) from fun W hW => (blk_cell hW).trans (S2.own.cell 1))
  have HS2 := hide (show Sh base mode w2.drew SB I O (T ++ (Ln ++ [10])) [] (.slice a2 n2 c2) rv2 from S2.below ((Below.refl _ _).drew))
  have HF2 := hide (show Fm base mode SB w w2.drew from (unhide F12).trans (Fm.ofBelow ((Below.refl _ _).drew) hb2))
  have HM := hide (mul_small hI hO)
  have hM := mul_bd hI hO
  have hb2' : base ≤ w2.drew.heap.size := hb2
  clear HC1 HF1 F12 S2 F2 c31 z31
  go_upto_region 2 with fail
  refine Z.region 10 (fun W => W.heap[SB]? = w2.heap[SB]?) (by kernel_rfl) rfl (fun hHeld => ?_)
  refine Z.takeN (i := 0) (d := 13) (v := .pointer (some ⟨SB, 0, none⟩)) rfl rfl (by kernel_rfl) (by kernel_rfl) (by kernel_rfl) (by rfl) (fun _ _ _ h => h) (Or.inl ⟨by rfl, ?_⟩) hHeld ?_
  · intro w' hSw; go_simp
  simp only [Act.put, List.setIfInBounds_toArray, List.set_cons_zero, List.set_cons_succ]
  refine Z.takeN (i := 1) (d := 14) (v := .pointer (some ⟨SB, 0, none⟩)) rfl rfl (by kernel_rfl) (by kernel_rfl) (by kernel_rfl) (by rfl) (fun _ _ _ h => h) (Or.inl ⟨by rfl, ?_⟩) hHeld ?_
  · intro w' hSw; go_simp
  simp only [Act.put, List.setIfInBounds_toArray, List.set_cons_zero, List.set_cons_succ]
  refine Z.takeN (i := 2) (d := 15) (v := .pointer (some ⟨SB, 0, none⟩)) rfl rfl (by kernel_rfl) (by kernel_rfl) (by kernel_rfl) (by rfl) (fun _ _ _ h => h) (Or.inl ⟨by rfl, ?_⟩) hHeld ?_
  · intro w' hSw; go_simp
  simp only [Act.put, List.setIfInBounds_toArray, List.set_cons_zero, List.set_cons_succ]
  refine Z.takeN (i := 3) (d := 16) (v := .int .u64 (I : Int)) rfl rfl (by kernel_rfl) (by kernel_rfl) (by kernel_rfl) (by rfl) (fun _ _ _ h => h) (Or.inl ⟨by rfl, ?_⟩) hHeld ?_
  · intro w' hSw; have g1 := (unhide K0) _ hSw; go_simp
  simp only [Act.put, List.setIfInBounds_toArray, List.set_cons_zero, List.set_cons_succ]
  refine Z.takeN (i := 4) (d := 17) (v := .pointer (some ⟨SB, 0, none⟩)) rfl rfl (by kernel_rfl) (by kernel_rfl) (by kernel_rfl) (by rfl) (fun _ _ _ h => h) (Or.inl ⟨by rfl, ?_⟩) hHeld ?_
  · intro w' hSw; go_simp
  simp only [Act.put, List.setIfInBounds_toArray, List.set_cons_zero, List.set_cons_succ]
  refine Z.takeN (i := 5) (d := 18) (v := .pointer (some ⟨SB, 0, none⟩)) rfl rfl (by kernel_rfl) (by kernel_rfl) (by kernel_rfl) (by rfl) (fun _ _ _ h => h) (Or.inl ⟨by rfl, ?_⟩) hHeld ?_
  · intro w' hSw; go_simp
  simp only [Act.put, List.setIfInBounds_toArray, List.set_cons_zero, List.set_cons_succ]
  refine Z.takeN (i := 6) (d := 19) (v := .pointer (some ⟨SB, 1, none⟩)) rfl rfl (by kernel_rfl) (by kernel_rfl) (by kernel_rfl) (by rfl) (fun _ _ _ h => h) (Or.inl ⟨by rfl, ?_⟩) hHeld ?_
  · intro w' hSw; go_simp
  simp only [Act.put, List.setIfInBounds_toArray, List.set_cons_zero, List.set_cons_succ]
  refine Z.takeN (i := 7) (d := 20) (v := .int .u64 (O : Int)) rfl rfl (by kernel_rfl) (by kernel_rfl) (by kernel_rfl) (by rfl) (fun _ _ _ h => h) (Or.inl ⟨by rfl, ?_⟩) hHeld ?_
  · intro w' hSw; have g1 := (unhide K1) _ hSw; go_simp
  simp only [Act.put, List.setIfInBounds_toArray, List.set_cons_zero, List.set_cons_succ]
  refine Z.takeN (i := 8) (d := 21) (v := .int .u64 ((I * O : Nat) : Int)) rfl rfl (by kernel_rfl) (by kernel_rfl) (by kernel_rfl) (by rfl) (fun _ _ _ h => h) (Or.inl ⟨by rfl, ?_⟩) hHeld ?_
  · intro w' hSw; have g1 := unhide HM; go_simp; first | done | exact g1 | (rw [g1]; done)
  simp only [Act.put, List.setIfInBounds_toArray, List.set_cons_zero, List.set_cons_succ]
  refine Z.takeN (i := 9) (d := 22) (v := .int .u64 0) rfl rfl (by kernel_rfl) (by kernel_rfl) (by kernel_rfl) (by rfl) (fun _ _ _ h => h) (Or.inl ⟨by rfl, ?_⟩) hHeld ?_
  · intro w' hSw; go_simp
  simp only [Act.put, List.setIfInBounds_toArray, List.set_cons_zero, List.set_cons_succ]

  refine Z.done (by kernel_rfl) ?_ _
  clear K0 K1 HM hHeld
  generalize w2.drew = w3 at *
  obtain ⟨m, hm⟩ : ∃ m, m = I * O := ⟨_, rfl⟩
  rw [← hm] at hM ⊢
  have HMM := hide hm
  clear hm
  obtain ⟨T1, hT1⟩ : ∃ T1, T1 = T ++ (Ln ++ [10]) := ⟨_, rfl⟩
  rw [← hT1] at HS2
  have HTT := hide hT1
  clear hT1
  go_wp2_with fail
  go_loopg [22] m (fun gh s22 wr => ∃ (k : Nat) (lv rv : Value), Hid (gh = m - k) ∧ s22 = .int .u64 (k : Int) ∧ k ≤ m ∧ Hid (Sh base mode wr SB I O T1 (List.replicate k 32) lv rv) ∧ Hid (Fm base mode SB w wr))
  case atStart => exact ⟨0, _, _, rfl, rfl, by omega, unhide HS2, unhide HF2⟩
  case round =>
    obtain ⟨k, lvk, rvk, hg, rfl, hk, hSk, hFk⟩ := hrel
    obtain ⟨ak, nk, ck, hlk⟩ := hSk.out.shaped
    subst hlk
    have hbk : base ≤ wr.heap.size := Nat.le_trans hbw hFk.out.size
    by_cases hlt : k < m
    · have hltI : (k : Int) < (m : Int) := by omega
      have c3 : wr.cell? ⟨SB, 3, none⟩ = some (.slice ak nk ck) := hSk.out.own.cell 3
      have hown1 := hide (fun o => hSk.out.line.alloc o)
      have hone := hide (J.one_word wr 32)
      have honep := hide (J.one_plain 32)
      have hlr : (List.replicate k (32 : UInt8)).length = k := List.length_replicate
      have hb63 : (List.replicate k (32 : UInt8)).length + 1 ≤ maxLen := by rw [hlr]; unfold maxLen; omega
      have hby : ((List.replicate k (32 : UInt8)).length + 1) * 1 ≤ 140737488355328 := by rw [hlr]; omega
      have hwk : IntKind.u64.wrap ((k : Int) + 1) = (k : Int) + 1 := u64_small (by omega) (by omega)
      clear hlr
      go_wp2_with (at_builtin; refine wpList_append_own _ rfl (.tmp 28) (.tmp 29) 46 rfl base 5 i0 (.int .u8 0) 1 1 Tryd.underlying46 hi hz0 hz1 hz2 rfl (by decide) _ (List.replicate k (32 : UInt8)).length _ rfl ((unhide hown1) _) ⟨wr.heap.size, 0, none⟩ 1 1 [.int .u8 32] rfl rfl (unhide hone) (unhide honep) hb63 hby (by simp; omega) ?_)
      intro v1 w1 ho1 hg1 _
      have ho1' : w1.ownsRow base 5 1 v1 (List.replicate k 32 ++ [(32 : UInt8)]).length (J.bv (List.replicate k 32 ++ [(32 : UInt8)])) := by rw [List.length_append, ← J.bv_snoc, List.length_replicate]; exact ho1
      obtain ⟨B1, c31, z31, S1, F1⟩ := hSk.out.pushed hbk ((Bk.refl _ _).alloc hbk _) ho1' hg1 ((unhide hown1) _)
      obtain ⟨xa1, xn1, xc1, rfl⟩ := owns_shape ho1
      have HS1 := hide (show Sh base mode (w1.setCell ⟨SB, 3, none⟩ (.slice xa1 xn1 xc1)) SB I O T1 (List.replicate (k + 1) 32) (.slice xa1 xn1 xc1) rvk by rw [List.replicate_succ']; exact S1)
      have HF1 := hide (hFk.out.trans F1)
      clear hg1 ho1 ho1' hown1 hone honep hb63 hby S1 F1 B1 c3
      go_wp2_with fail
      go_roundg (m - (k + 1))
      case rel => exact ⟨k + 1, _, _, rfl, by go_num, by omega, HS1, HF1⟩
      case measure => have := hg.out; omega
    · have hge : ¬ (k : Int) < (m : Int) := by omega
      have hkm : k = m := by omega
      have hfin := hSk.out
      rw [hkm, unhide HMM, unhide HTT] at hfin
      go_wp2_with fail
      go_end0
      first | exact ⟨rfl, _, _, hfin, hFk.out⟩ | exact ⟨rfl, ⟨_, _, hfin⟩, hFk.out⟩
end Pr
end Go.Proofs.YtlbmpldknfcfhaaDoor
