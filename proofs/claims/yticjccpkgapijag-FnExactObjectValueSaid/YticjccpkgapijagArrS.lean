/-
  spec.ArrayValue.
-/
import Derived.Test.YticjccpkgapijagArrP
namespace Go.Proofs.Yticjccpkgapijag
open Go.RowKit
set_option linter.unusedVariables false

set_option maxHeartbeats 1000000 in
theorem specTold_any (s : Value) (B : Nat) (l : List M.Cl) (w : World) (h : Res w B s l) (hB : B ≤ w.heap.size) (hl : l ≠ []) (hn : l.length ≤ 1048576) (hok : ∀ c ∈ l, c.ok) :
    Calls Try.prog 31 #[s] w fun e w' => ∃ s', e = .returned (.agg #[.int .i64 (told l).1, s']) ∧ Res w' B s' (told l).2 ∧ Below w.heap.size w w' := by
  obtain ⟨b, cap, rfl, hcap, ho⟩ := res_any h hl
  have HR := hide h
  have OK := hide hok
  clear h hok
  have B0 : ∀ o, Below w.heap.size w (w.alloc o) := fun o => (Below.refl _ _).alloc (Nat.le_refl _) o
  have HB0 := hide B0
  clear B0
  have hlt := ho.lt
  go_enter Try.func31, Try.ntmps31
  go_wp2_with fail
  refine (specFault_any l b 0 cap _ (ho.row.below ((unhide HB0) _) hlt) (by simp; omega) hn hcap (unhide OK)).mono ?_
  rintro e1 w1 ⟨rfl, hb1⟩
  have hR : Own w1 w.heap.size 26 [.int .i64 0, .slice none 0 0] := Own.below ⟨_, heap_alloc_new _ _, rfl⟩ hb1 (by simp)
  have B1 : Below w.heap.size w w1 := ((unhide HB0) _).trans (hb1.mono (by simp))
  have r0 := hR.cell 0
  have r1 := hR.cell 1
  have z0 := hR.frozen 0
  have z1 := hR.frozen 1
  simp only [List.getElem?_cons_zero, List.getElem?_cons_succ] at r0 r1
  clear hb1
  generalize hq : M.valueFault l = q
  by_cases hz : q = 0
  · subst hz
    have fin := hide (told_ok hq)
    clear hq
    go_wp2_with fail
    refine bodyPost_ret (v := .agg #[.int .i64 0, .slice (some ⟨b, 0, none⟩) l.length cap]) (by simp [results, Try.results31, go_sem, r0, r1]) rfl ⟨.slice (some ⟨b, 0, none⟩) l.length cap, by rw [unhide fin], ?_, ?_⟩
    · rw [unhide fin]
      have hne : ∀ b', (Value.slice (some ⟨b, 0, none⟩) l.length cap).ownBlock = some b' → b' ≠ w.heap.size := fun b' h => by simp only [Value.ownBlock, Option.some.injEq] at h; omega
      exact (((unhide HR).below B1).setOther _ _ hne).setOther _ _ hne
    · exact (B1.setCell (Nat.le_refl _) _).setCell (Nat.le_refl _) _
  · have fin := hide ((told_bad (l := l) (by rw [hq]; exact hz)).trans (by rw [hq]))
    have hz' : (q == 0) = false := by simp [hz]
    clear hq
    go_wp2_with fail
    refine bodyPost_ret (v := .agg #[.int .i64 q, .slice none 0 0]) (by simp [results, Try.results31, go_sem, r0, r1]) rfl ⟨.slice none 0 0, by rw [unhide fin], ?_, ?_⟩
    · rw [unhide fin]; exact ⟨by simp, .inl ⟨rfl, rfl⟩⟩
    · exact (B1.setCell (Nat.le_refl _) _).setCell (Nat.le_refl _) _

set_option maxHeartbeats 1000000 in
theorem implTold_any (s : Value) (B : Nat) (l : List M.Cl) (w : World) (h : Res w B s l) (hB : B ≤ w.heap.size) (hl : l ≠ []) (hn : l.length ≤ 1048576) (hok : ∀ c ∈ l, c.ok) :
    Calls Try.prog 34 #[s] w fun e w' => ∃ s', e = .returned (.agg #[.int .i64 (told l).1, s']) ∧ Res w' B s' (told l).2 ∧ Below w.heap.size w w' := by
  obtain ⟨b, cap, rfl, hcap, ho⟩ := res_any h hl
  have HR := hide h
  have OK := hide hok
  clear h hok
  have B0 : ∀ o, Below w.heap.size w (w.alloc o) := fun o => (Below.refl _ _).alloc (Nat.le_refl _) o
  have HB0 := hide B0
  clear B0
  have hlt := ho.lt
  go_enter Try.func34, Try.ntmps34
  go_wp2_with fail
  refine (implFault_any l b 0 cap _ (ho.row.below ((unhide HB0) _) hlt) (by simp; omega) hn hcap (unhide OK)).mono ?_
  rintro e1 w1 ⟨rfl, hb1⟩
  have hR : Own w1 w.heap.size 26 [.int .i64 0, .slice none 0 0] := Own.below ⟨_, heap_alloc_new _ _, rfl⟩ hb1 (by simp)
  have B1 : Below w.heap.size w w1 := ((unhide HB0) _).trans (hb1.mono (by simp))
  have r0 := hR.cell 0
  have r1 := hR.cell 1
  have z0 := hR.frozen 0
  have z1 := hR.frozen 1
  simp only [List.getElem?_cons_zero, List.getElem?_cons_succ] at r0 r1
  clear hb1
  generalize hq : M.valueFault l = q
  by_cases hz : q = 0
  · subst hz
    have fin := hide (told_ok hq)
    clear hq
    go_wp2_with fail
    refine bodyPost_ret (v := .agg #[.int .i64 0, .slice (some ⟨b, 0, none⟩) l.length cap]) (by simp [results, Try.results34, go_sem, r0, r1]) rfl ⟨.slice (some ⟨b, 0, none⟩) l.length cap, by rw [unhide fin], ?_, ?_⟩
    · rw [unhide fin]
      have hne : ∀ b', (Value.slice (some ⟨b, 0, none⟩) l.length cap).ownBlock = some b' → b' ≠ w.heap.size := fun b' h => by simp only [Value.ownBlock, Option.some.injEq] at h; omega
      exact (((unhide HR).below B1).setOther _ _ hne).setOther _ _ hne
    · exact (B1.setCell (Nat.le_refl _) _).setCell (Nat.le_refl _) _
  · have fin := hide ((told_bad (l := l) (by rw [hq]; exact hz)).trans (by rw [hq]))
    have hz' : (q == 0) = false := by simp [hz]
    clear hq
    go_wp2_with fail
    refine bodyPost_ret (v := .agg #[.int .i64 q, .slice none 0 0]) (by simp [results, Try.results34, go_sem, r0, r1]) rfl ⟨.slice none 0 0, by rw [unhide fin], ?_, ?_⟩
    · rw [unhide fin]; exact ⟨by simp, .inl ⟨rfl, rfl⟩⟩
    · exact (B1.setCell (Nat.le_refl _) _).setCell (Nat.le_refl _) _

set_option maxHeartbeats 1000000 in
theorem l1Array_any (g : Nat) (ps : List (List M.Cl)) (w : World) (hL : LR w g ps) (hn : ps.length ≤ 200) (hv : ∀ j, j < ps.length → M.valueFault (ps.getD j []) = 0) :
    Calls Try.prog 32 #[.slice (some ⟨g, 0, none⟩) ps.length ps.length] w fun e w' => ∃ s, e = .returned s ∧ Res w' w.heap.size s (arrV ps) ∧ Below w.heap.size w w' := by
  have HL := hide hL
  have HV := hide hv
  clear hL hv
  obtain ⟨i0, hi, hz0, hz1, hz2⟩ := info_parts Try.info62
  go_enter Try.func32, Try.ntmps32
  go_wp2_with fail
  go_loopg [3, 4] ps.length (fun gh s3 s4 wr => ∃ k : Nat, Hid (gh = ps.length - k) ∧ s4 = .int .i64 k ∧ k ≤ ps.length ∧ wr.ownsRow w.heap.size 62 5 s3 (arrK ps k).length (flat (arrK ps k)) ∧ Below w.heap.size w wr)
  case atStart => exact ⟨0, rfl, rfl, by omega, one_own w w.heap.size _ (headCl 5 ps.length) rfl (Nat.le_refl _), (Below.refl _ _).alloc (Nat.le_refl _) _⟩
  case round =>
    obtain ⟨k, hg, rfl, hk, hown, hbel⟩ := hrel
    by_cases hlt : k < ps.length
    · obtain ⟨b, f0, hb, hr⟩ := ((unhide HL).below hbel).2 k hlt
      have hp := fault_len ((unhide HV) k hlt)
      have hal := arrK_length ps k
      have hts := tot_small ps k hk (fun j hj => (fault_len ((unhide HV) j (by omega))).2)
      have hsucc := hide (show flat (arrK ps k) ++ flat (ps.getD k []) = flat (arrK ps (k + 1)) by rw [arrK_succ ps k hlt, flat_append])
      have hsl := hide (show (arrK ps k).length + (ps.getD k []).length = (arrK ps (k + 1)).length by rw [arrK_succ ps k hlt, List.length_append])
      have hnews := hide (row_words hr)
      have hone := hide (flat_one (ps.getD k []))
      have HFL := hide (flat_length (ps.getD k []))
      clear hr
      generalize ps.getD k [] = p at *
      have hb63 : (arrK ps k).length + p.length ≤ maxLen := by unfold maxLen; omega
      have hby : ((arrK ps k).length + p.length) * 56 ≤ 140737488355328 := by omega
      have hbse := hide (ownsRow_base hown)
      have HOWN := hide hown
      have hbase := hbel.size
      clear hown hal hts
      go_wp2_with (at_builtin; refine wpList_append_own _ rfl (.tmp 15) (.tmp 19) 24 rfl w.heap.size 62 i0 _ 5 56 Try.underlying24 hi hz0 hz1 hz2 rfl (by decide) _ (arrK ps k).length _ rfl (unhide HOWN) ⟨b, 0, none⟩ p.length p.length (flat p) rfl (unhide HFL) (unhide hnews) (unhide hone) hb63 hby hbase ?_)
      intro v' w2 ho2 hg2 _
      rw [unhide hsucc, unhide hsl] at ho2
      have B2 : Below w.heap.size w w2 := hbel.grown hg2 hbase (unhide hbse)
      have HO2 := hide ho2
      clear ho2 hg2 f0
      go_wp2_with fail
      go_roundg (ps.length - (k + 1))
      case rel => exact ⟨k + 1, rfl, by go_num, by omega, unhide HO2, B2⟩
      case measure => have := hg.out; omega
    · have hke : k = ps.length := by omega
      have hal := arrK_length ps k
      have hts := tot_small ps k hk (fun j hj => (fault_len ((unhide HV) j (by omega))).2)
      have fin := hide (show Res wr w.heap.size u3 (arrV ps) by unfold arrV; rw [← hke]; exact res_of_owns hown (by omega))
      clear hke hown hal hts
      go_wp2_with fail
      go_ret
      exact ⟨_, rfl, unhide fin, hbel⟩

set_option maxHeartbeats 1000000 in
theorem specArray_any (g : Nat) (ps : List (List M.Cl)) (w : World) (hL : LR w g ps) (hn : ps.length ≤ 1048576) (hln : tot ps ps.length ≤ 1048576) (hok : OkS ps) :
    Calls Try.prog 8 #[.slice (some ⟨g, 0, none⟩) ps.length ps.length] w fun e w' => ∃ s, e = .returned (.agg #[.int .i64 (arrOut ps).1, s]) ∧ Res w' w.heap.size s (arrOut ps).2 ∧ Below w.heap.size w w' := by
  have HL := hide hL
  have OK := hide hok
  have HN := hide hln
  clear hL hok hln
  have B0 : ∀ o, Below w.heap.size w (w.alloc o) := fun o => (Below.refl _ _).alloc (Nat.le_refl _) o
  have HB0 := hide B0
  clear B0
  by_cases hm : 200 < ps.length
  · have fin := hide (arr_many hm)
    have d1 : decide ((200 : Int) < (ps.length : Int)) = true := decide_eq_true (by omega)
    go_enter Try.func8, Try.ntmps8
    go_wp2_with fail
    refine bodyPost_ret (v := .agg #[.int .i64 2, .slice none 0 0]) (by simp [results, Try.results8, go_sem]) rfl ⟨.slice none 0 0, by rw [unhide fin], ?_, ?_⟩
    · rw [unhide fin]; exact ⟨by simp, .inl ⟨rfl, rfl⟩⟩
    · repeat (first | exact Below.refl _ _ | refine Below.setCell ?_ (Nat.le_refl _) _ | refine Below.alloc ?_ (by simp <;> omega) _)
  have d1 : decide ((200 : Int) < (ps.length : Int)) = false := decide_eq_false (by omega)
  go_enter Try.func8, Try.ntmps8
  go_wp2_with fail
  go_loopg [3] ps.length (fun gh s3 wr => ∃ k : Nat, Hid (gh = ps.length - k) ∧ s3 = .int .i64 k ∧ k ≤ ps.length ∧ Hid (∀ j, j < k → M.valueFault (ps.getD j []) = 0) ∧ Own wr w.heap.size 26 [.int .i64 0, .slice none 0 0] ∧ Below w.heap.size w wr)
  case atStart => exact ⟨0, rfl, rfl, by omega, fun j hj => absurd hj (by omega), ⟨_, heap_alloc_new _ _, rfl⟩, (unhide HB0) _⟩
  case round =>
    obtain ⟨k, hg, rfl, hk, hall, hR, hbel⟩ := hrel
    by_cases hlt : k < ps.length
    · obtain ⟨b, f0, hb, hr⟩ := ((unhide HL).below hbel).2 k hlt
      have hq := Nat.le_trans (len_le ps k hlt) (unhide HN)
      have hok := hide ((unhide OK) k hlt)
      have hhit := hide (fun hz => firstBad_hit ps k hall.out hlt hz)
      have hnext := hide (fun (h0 : M.valueFault (ps.getD k []) = 0) j (hj : j < k + 1) => show M.valueFault (ps.getD j []) = 0 by
        by_cases e : j = k
        · subst e; exact h0
        · exact hall.out j (by omega))
      generalize ps.getD k [] = p at *
      go_wp2_with fail
      refine (specFault_any p b 0 p.length _ hr hb hq (Nat.le_refl _) (unhide hok)).mono ?_
      rintro e1 w1 ⟨rfl, hb1⟩
      have hR1 := hR.below hb1 hR.lt
      have B1 : Below w.heap.size w w1 := hbel.trans (hb1.mono hbel.size)
      clear hr f0 hok hb1 hR hbel
      generalize hqq : M.valueFault p = q at *
      by_cases hz : q = 0
      · subst hz
        have hn2 := hide ((unhide hnext) rfl)
        clear hhit hnext
        go_wp2_with fail
        go_roundg (ps.length - (k + 1))
        case rel => exact ⟨k + 1, rfl, by go_num, by omega, unhide hn2, hR1, B1⟩
        case measure => have := hg.out; omega
      · have fb := (unhide hhit) hz
        have fin := hide ((arr_bad hm (by rw [fb]; exact hz)).trans (by rw [fb]))
        have hz' : (q == 0) = false := by simp [hz]
        have r0 := hR1.cell 0
        have r1 := hR1.cell 1
        have z0 := hR1.frozen 0
        have z1 := hR1.frozen 1
        simp only [List.getElem?_cons_zero, List.getElem?_cons_succ] at r0 r1
        clear hhit hnext fb hqq
        go_wp2_with fail
        refine bodyPost_ret (v := .agg #[.int .i64 q, .slice none 0 0]) (by simp [results, Try.results8, go_sem, r0, r1]) rfl ⟨.slice none 0 0, by rw [unhide fin], ?_, ?_⟩
        · rw [unhide fin]; exact ⟨by simp, .inl ⟨rfl, rfl⟩⟩
        · exact (B1.setCell (Nat.le_refl _) _).setCell (Nat.le_refl _) _
    · have hke : k = ps.length := by omega
      have hv : ∀ j, j < ps.length → M.valueFault (ps.getD j []) = 0 := by rw [← hke]; exact hall.out
      have HV := hide hv
      have fin := hide (arr_ok hm (firstBad_none ps hv))
      have hal := arrK_length ps ps.length
      have hts := tot_small ps ps.length (Nat.le_refl _) (fun j hj => (fault_len (hv j hj)).2)
      have hvl : (arrV ps).length ≤ 1048576 := by unfold arrV; omega
      have hvn : arrV ps ≠ [] := by unfold arrV arrK; simp
      have hvo := hide (show ∀ c ∈ arrV ps, c.ok from arrK_ok ps (by omega) (unhide OK) ps.length (Nat.le_refl _))
      clear hke hv hal hts
      go_wp2_with fail
      refine (l1Array_any g ps _ ((unhide HL).below hbel) (by omega) (unhide HV)).mono ?_
      rintro e1 w1 ⟨s1, rfl, hr1, hb1⟩
      have hR1 := hR.below hb1 hR.lt
      have B1 : Below w.heap.size w w1 := hbel.trans (hb1.mono hbel.size)
      have hbs := hr1.base
      have hsh := hr1.shape
      obtain ⟨a1, m1, c1, rfl⟩ := hsh
      go_wp2_with fail
      refine (specTold_any _ _ _ _ hr1 hb1.size hvn hvl (unhide hvo)).mono ?_
      rintro e2 w2 ⟨s2, rfl, hr2, hb2⟩
      have hR2 := hR1.below hb2 hR1.lt
      have B2 : Below w.heap.size w w2 := B1.trans (hb2.mono B1.size)
      have hsz := hR.lt
      have hbs2 := hr2.base
      have hr3 : Res w2 w.heap.size s2 (arrOut ps).2 := by rw [unhide fin]; exact hr2.mono hbel.size
      rw [← unhide fin]
      have hsh := hr2.shape
      obtain ⟨a2, m2, c2, rfl⟩ := hsh
      have hne : ∀ b', (Value.slice a2 m2 c2).ownBlock = some b' → b' ≠ w.heap.size := fun b' h => by have := hbs2 b' h; omega
      have HR3 := hide (fun x y => (hr3.setOther ⟨w.heap.size, 0, none⟩ x hne).setOther ⟨w.heap.size, 1, none⟩ y hne)
      have r0 := hR2.cell 0
      have r1 := hR2.cell 1
      have z0 := hR2.frozen 0
      have z1 := hR2.frozen 1
      simp only [List.getElem?_cons_zero, List.getElem?_cons_succ] at r0 r1
      clear hr1 hb1 hr2 hb2 hbs hbs2 hne hr3 hR1 B1
      generalize hRR : arrOut ps = R at *
      obtain ⟨rc, rl⟩ := R
      simp only at HR3 ⊢
      have HRR := hide hRR
      clear hRR
      go_wp2_with fail
      refine bodyPost_ret (v := .agg #[.int .i64 rc, .slice a2 m2 c2]) (by simp [results, Try.results8, go_sem, r0, r1]) rfl ⟨.slice a2 m2 c2, by rw [unhide HRR], ?_, ?_⟩
      · rw [unhide HRR]; exact (unhide HR3) _ _
      · exact (B2.setCell (Nat.le_refl _) _).setCell (Nat.le_refl _) _

end Go.Proofs.Yticjccpkgapijag
