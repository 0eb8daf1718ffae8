/-
  spec.ArrayValue.
-/
import Derived.Test.YtjoghcolfehkcaaArrP
namespace Go.Proofs.Ytjoghcolfehkcaa
open Go.RowKit
set_option linter.unusedVariables false

set_option maxHeartbeats 1000000 in
theorem specTold_any (s : Value) (B : Nat) (l : List M.Cl) (w : World) (h : Res w B s l) (hB : B ≤ w.heap.size) (hl : l ≠ []) (hn : l.length ≤ 1048576) (hok : ∀ c ∈ l, c.ok) :
    Calls Try.prog 95 #[s] w fun e w' => ∃ s', e = .returned (.agg #[.int .i64 (told l).1, s']) ∧ Res w' B s' (told l).2 ∧ Below w.heap.size w w' := by
  obtain ⟨b, cap, rfl, hcap, ho⟩ := res_any h hl
  have HR := hide h
  have OK := hide hok
  clear h hok
  have B0 : ∀ o, Below w.heap.size w (w.alloc o) := fun o => (Below.refl _ _).alloc (Nat.le_refl _) o
  have HB0 := hide B0
  clear B0
  have hlt := ho.lt
  go_enter Try.func95, Try.ntmps95
  go_wp2_with fail
  refine (specFault_any l b 0 cap _ (ho.row.below ((unhide HB0) _) hlt) (by simp; omega) hn hcap (unhide OK)).mono ?_
  rintro e1 w1 ⟨rfl, hb1⟩
  have hR : Own w1 w.heap.size 26 [.int .i64 0, .slice none 0 0] := Own.below ⟨_, heap_alloc_new _ _, rfl⟩ hb1 (by simp)
  have B1 : Below w.heap.size w w1 := ((unhide HB0) _).trans (hb1.mono (by simp))
  have r0 := hR.cell 0
  have r1 := hR.cell 1
  have z0 := hR.frozen 0
  have z1 := hR.frozen 1
  simp only [List.getElem?_cons_zero, List.getElem?_cons_succ] at r0 r1
  clear hb1
  generalize hq : M.valueFault l = q
  by_cases hz : q = 0
  · subst hz
    have fin := hide (told_ok hq)
    clear hq
    go_wp2_with fail
    refine bodyPost_ret (v := .agg #[.int .i64 0, .slice (some ⟨b, 0, none⟩) l.length cap]) (by simp [results, Try.results95, go_sem, r0, r1]) rfl ⟨.slice (some ⟨b, 0, none⟩) l.length cap, by rw [unhide fin], ?_, ?_⟩
    · rw [unhide fin]
      have hne : ∀ b', (Value.slice (some ⟨b, 0, none⟩) l.length cap).ownBlock = some b' → b' ≠ w.heap.size := fun b' h => by simp only [Value.ownBlock, Option.some.injEq] at h; omega
      exact (((unhide HR).below B1).setOther _ _ hne).setOther _ _ hne
    · exact (B1.setCell (Nat.le_refl _) _).setCell (Nat.le_refl _) _
  · have fin := hide ((told_bad (l := l) (by rw [hq]; exact hz)).trans (by rw [hq]))
    have hz' : (q == 0) = false := by simp [hz]
    clear hq
    go_wp2_with fail
    refine bodyPost_ret (v := .agg #[.int .i64 q, .slice none 0 0]) (by simp [results, Try.results95, go_sem, r0, r1]) rfl ⟨.slice none 0 0, by rw [unhide fin], ?_, ?_⟩
    · rw [unhide fin]; exact ⟨by simp, .inl ⟨rfl, rfl⟩⟩
    · exact (B1.setCell (Nat.le_refl _) _).setCell (Nat.le_refl _) _

set_option maxHeartbeats 1000000 in
theorem implTold_any (s : Value) (B : Nat) (l : List M.Cl) (w : World) (h : Res w B s l) (hB : B ≤ w.heap.size) (hl : l ≠ []) (hn : l.length ≤ 1048576) (hok : ∀ c ∈ l, c.ok) :
    Calls Try.prog 89 #[s] w fun e w' => ∃ s', e = .returned (.agg #[.int .i64 (told l).1, s']) ∧ Res w' B s' (told l).2 ∧ Below w.heap.size w w' := by
  obtain ⟨b, cap, rfl, hcap, ho⟩ := res_any h hl
  have HR := hide h
  have OK := hide hok
  clear h hok
  have B0 : ∀ o, Below w.heap.size w (w.alloc o) := fun o => (Below.refl _ _).alloc (Nat.le_refl _) o
  have HB0 := hide B0
  clear B0
  have hlt := ho.lt
  go_enter Try.func89, Try.ntmps89
  go_wp2_with fail
  refine (implFault_any l b 0 cap _ (ho.row.below ((unhide HB0) _) hlt) (by simp; omega) hn hcap (unhide OK)).mono ?_
  rintro e1 w1 ⟨rfl, hb1⟩
  have hR : Own w1 w.heap.size 26 [.int .i64 0, .slice none 0 0] := Own.below ⟨_, heap_alloc_new _ _, rfl⟩ hb1 (by simp)
  have B1 : Below w.heap.size w w1 := ((unhide HB0) _).trans (hb1.mono (by simp))
  have r0 := hR.cell 0
  have r1 := hR.cell 1
  have z0 := hR.frozen 0
  have z1 := hR.frozen 1
  simp only [List.getElem?_cons_zero, List.getElem?_cons_succ] at r0 r1
  clear hb1
  generalize hq : M.valueFault l = q
  by_cases hz : q = 0
  · subst hz
    have fin := hide (told_ok hq)
    clear hq
    go_wp2_with fail
    refine bodyPost_ret (v := .agg #[.int .i64 0, .slice (some ⟨b, 0, none⟩) l.length cap]) (by simp [results, Try.results89, go_sem, r0, r1]) rfl ⟨.slice (some ⟨b, 0, none⟩) l.length cap, by rw [unhide fin], ?_, ?_⟩
    · rw [unhide fin]
      have hne : ∀ b', (Value.slice (some ⟨b, 0, none⟩) l.length cap).ownBlock = some b' → b' ≠ w.heap.size := fun b' h => by simp only [Value.ownBlock, Option.some.injEq] at h; omega
      exact (((unhide HR).below B1).setOther _ _ hne).setOther _ _ hne
    · exact (B1.setCell (Nat.le_refl _) _).setCell (Nat.le_refl _) _
  · have fin := hide ((told_bad (l := l) (by rw [hq]; exact hz)).trans (by rw [hq]))
    have hz' : (q == 0) = false := by simp [hz]
    clear hq
    go_wp2_with fail
    refine bodyPost_ret (v := .agg #[.int .i64 q, .slice none 0 0]) (by simp [results, Try.results89, go_sem, r0, r1]) rfl ⟨.slice none 0 0, by rw [unhide fin], ?_, ?_⟩
    · rw [unhide fin]; exact ⟨by simp, .inl ⟨rfl, rfl⟩⟩
    · exact (B1.setCell (Nat.le_refl _) _).setCell (Nat.le_refl _) _

set_option maxHeartbeats 1000000 in
theorem l1Array_any (g : Nat) (ps : List (List M.Cl)) (w : World) (hL : LR w g ps) (hn : ps.length ≤ 200) (hv : ∀ j, j < ps.length → M.valueFault (ps.getD j []) = 0) :
    Calls Try.prog 116 #[.slice (some ⟨g, 0, none⟩) ps.length ps.length] w fun e w' => ∃ s, e = .returned s ∧ Res w' w.heap.size s (arrV ps) ∧ Below w.heap.size w w' := by
  have HL := hide hL
  have HV := hide hv
  clear hL hv
  obtain ⟨i0, hi, hz0, hz1, hz2⟩ := info_parts Try.info55
  go_enter Try.func116, Try.ntmps116
  go_wp2_with fail
  go_loopg [3, 4] ps.length (fun gh s3 s4 wr => ∃ k : Nat, Hid (gh = ps.length - k) ∧ s4 = .int .i64 k ∧ k ≤ ps.length ∧ wr.ownsRow w.heap.size 55 5 s3 (arrK ps k).length (flat (arrK ps k)) ∧ Below w.heap.size w wr)
  case atStart => exact ⟨0, rfl, rfl, by omega, one_own w w.heap.size _ (headCl 5 ps.length) rfl (Nat.le_refl _), (Below.refl _ _).alloc (Nat.le_refl _) _⟩
  case round =>
    obtain ⟨k, hg, rfl, hk, hown, hbel⟩ := hrel
    by_cases hlt : k < ps.length
    · obtain ⟨b, f0, hb, hr⟩ := ((unhide HL).below hbel).2 k hlt
      have hp := fault_len ((unhide HV) k hlt)
      have hal := arrK_length ps k
      have hts := tot_small ps k hk (fun j hj => (fault_len ((unhide HV) j (by omega))).2)
      have hsucc := hide (show flat (arrK ps k) ++ flat (ps.getD k []) = flat (arrK ps (k + 1)) by rw [arrK_succ ps k hlt, flat_append])
      have hsl := hide (show (arrK ps k).length + (ps.getD k []).length = (arrK ps (k + 1)).length by rw [arrK_succ ps k hlt, List.length_append])
      have hnews := hide (row_words hr)
      have hone := hide (flat_one (ps.getD k []))
      have HFL := hide (flat_length (ps.getD k []))
      clear hr
      generalize ps.getD k [] = p at *
      have hb63 : (arrK ps k).length + p.length ≤ maxLen := by unfold maxLen; omega
      have hby : ((arrK ps k).length + p.length) * 56 ≤ 140737488355328 := by omega
      have hbse := hide (ownsRow_base hown)
      have HOWN := hide hown
      have hbase := hbel.size
      clear hown hal hts
      go_wp2_with (at_builtin; refine wpList_append_own _ rfl (.tmp 15) (.tmp 19) 24 rfl w.heap.size 55 i0 _ 5 56 Try.underlying24 hi hz0 hz1 hz2 rfl (by decide) _ (arrK ps k).length _ rfl (unhide HOWN) ⟨b, 0, none⟩ p.length p.length (flat p) rfl (unhide HFL) (unhide hnews) (unhide hone) hb63 hby hbase ?_)
      intro v' w2 ho2 hg2 _
      rw [unhide hsucc, unhide hsl] at ho2
      have B2 : Below w.heap.size w w2 := hbel.grown hg2 hbase (unhide hbse)
      have HO2 := hide ho2
      clear ho2 hg2 f0
      go_wp2_with fail
      go_roundg (ps.length - (k + 1))
      case rel => exact ⟨k + 1, rfl, by go_num, by omega, unhide HO2, B2⟩
      case measure => have := hg.out; omega
    · have hke : k = ps.length := by omega
      have hal := arrK_length ps k
      have hts := tot_small ps k hk (fun j hj => (fault_len ((unhide HV) j (by omega))).2)
      have fin := hide (show Res wr w.heap.size u3 (arrV ps) by unfold arrV; rw [← hke]; exact res_of_owns hown (by omega))
      clear hke hown hal hts
      go_wp2_with fail
      go_ret
      exact ⟨_, rfl, unhide fin, hbel⟩

end Go.Proofs.Ytjoghcolfehkcaa
