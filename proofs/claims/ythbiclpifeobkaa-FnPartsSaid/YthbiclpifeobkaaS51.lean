/-
  impl.ArrayValue over lists that lie anywhere.
-/
import Derived.Test.YthbiclpifeobkaaS13
import Derived.Test.YthbiclpifeobkaaS27
namespace Go.Proofs.Ythbiclpifeobkaa
open Go.RowKit
set_option linter.unusedVariables false
set_option linter.unusedSimpArgs false

set_option maxHeartbeats 1000000 in
theorem implArrayV_any (a : Option Addr) (cap : Nat) (ps : List (List M.Cl)) (w : World) (hL : LV w a ps) (hcap : ps.length ≤ cap) (hn : ps.length ≤ 1048576) (hln : ∀ j, j < ps.length → (ps.getD j []).length ≤ 1048576) (hok : OkS ps) :
    Calls Try.prog 20 #[.slice a ps.length cap] w fun e w' => ∃ s, e = .returned (.agg #[.int .i64 (arrOut ps).1, s]) ∧ Res w' w.heap.size s (arrOut ps).2 ∧ Below w.heap.size w w' := by
  have HL := hide hL
  have OK := hide hok
  have HN := hide hln
  clear hL hok hln
  have B0 : ∀ o, Below w.heap.size w (w.alloc o) := fun o => (Below.refl _ _).alloc (Nat.le_refl _) o
  have HB0 := hide B0
  clear B0
  by_cases hm : 200 < ps.length
  · have fin := hide (arr_many hm)
    have d1 : decide ((200 : Int) < (ps.length : Int)) = true := decide_eq_true (by omega)
    go_enter Try.func20, Try.ntmps20
    go_wp2_with fail
    refine bodyPost_ret (v := .agg #[.int .i64 2, .slice none 0 0]) (by simp [results, Try.results20, go_sem]) rfl ⟨.slice none 0 0, by rw [unhide fin], ?_, ?_⟩
    · rw [unhide fin]; exact ⟨by simp, .inl ⟨rfl, rfl⟩⟩
    · repeat (first | exact Below.refl _ _ | refine Below.setCell ?_ (Nat.le_refl _) _ | refine Below.alloc ?_ (by simp <;> omega) _)
  have d1 : decide ((200 : Int) < (ps.length : Int)) = false := decide_eq_false (by omega)
  go_enter Try.func20, Try.ntmps20
  go_wp2_with fail
  refine (firstFaultV_any a cap ps _ ((unhide HL).below ((unhide HB0) _)) hcap hn (unhide HN) (unhide OK)).mono ?_
  rintro e1 w1 ⟨rfl, hb1⟩
  have hR : Own w1 w.heap.size 41 [.int .i64 0, .slice none 0 0] := Own.below ⟨_, heap_alloc_new _ _, rfl⟩ hb1 (by simp)
  have B1 : Below w.heap.size w w1 := ((unhide HB0) _).trans (hb1.mono (by simp))
  clear hb1
  generalize hq : firstBad ps = q
  by_cases hz : q = 0
  · subst hz
    have HV := hide (firstBad_all ps hq)
    have fin := hide (arr_ok hm hq)
    have hal := arrK_length ps ps.length
    have hts := tot_small ps ps.length (Nat.le_refl _) (fun j hj => (fault_len ((unhide HV) j hj)).2)
    have hvl : (arrV ps).length ≤ 1048576 := by unfold arrV; omega
    have hvn : arrV ps ≠ [] := by unfold arrV arrK; simp
    have hvo := hide (show ∀ c ∈ arrV ps, c.ok from arrK_ok ps (by omega) (unhide OK) ps.length (Nat.le_refl _))
    have hsz := hR.lt
    clear hal hts hq
    go_wp2_with fail
    refine (layArrayV_any a cap ps _ ((unhide HL).below B1) hcap (by omega) (unhide HV)).mono ?_
    rintro e2 w2 ⟨s1, rfl, hr1, hb2⟩
    have hR1 := hR.below hb2 hR.lt
    have B2 : Below w.heap.size w w2 := B1.trans (hb2.mono B1.size)
    have hsh := hr1.shape
    obtain ⟨a1, m1, c1, rfl⟩ := hsh
    go_wp2_with fail
    refine (implTold_any _ _ _ _ hr1 hb2.size hvn hvl (unhide hvo)).mono ?_
    rintro e3 w3 ⟨s2, rfl, hr2, hb3⟩
    have hR2 := hR1.below hb3 hR1.lt
    have B3 : Below w.heap.size w w3 := B2.trans (hb3.mono B2.size)
    have hbs2 := hr2.base
    have hr3 : Res w3 w.heap.size s2 (arrOut ps).2 := by rw [unhide fin]; exact hr2.mono B1.size
    rw [← unhide fin]
    have hsh := hr2.shape
    obtain ⟨a2, m2, c2, rfl⟩ := hsh
    have hne : ∀ b', (Value.slice a2 m2 c2).ownBlock = some b' → b' ≠ w.heap.size := fun b' h => by have := hbs2 b' h; omega
    have HR3 := hide (fun x y => (hr3.setOther ⟨w.heap.size, 0, none⟩ x hne).setOther ⟨w.heap.size, 1, none⟩ y hne)
    have r0 := hR2.cell 0
    have r1 := hR2.cell 1
    have z0 := hR2.frozen 0
    have z1 := hR2.frozen 1
    simp only [List.getElem?_cons_zero, List.getElem?_cons_succ] at r0 r1
    clear hr1 hr2 hb2 hb3 hbs2 hne hr3 hR1
    generalize hRR : arrOut ps = R at *
    obtain ⟨rc, rl⟩ := R
    simp only at HR3 ⊢
    have HRR := hide hRR
    clear hRR
    go_wp2_with fail
    refine bodyPost_ret (v := .agg #[.int .i64 rc, .slice a2 m2 c2]) (by simp [results, Try.results20, go_sem, r0, r1]) rfl ⟨.slice a2 m2 c2, by rw [unhide HRR], ?_, ?_⟩
    · rw [unhide HRR]; exact (unhide HR3) _ _
    · exact (B3.setCell (Nat.le_refl _) _).setCell (Nat.le_refl _) _
  · have fin := hide ((arr_bad hm (by rw [hq]; exact hz)).trans (by rw [hq]))
    have hz' : (q == 0) = false := by simp [hz]
    have r0 := hR.cell 0
    have r1 := hR.cell 1
    have z0 := hR.frozen 0
    have z1 := hR.frozen 1
    simp only [List.getElem?_cons_zero, List.getElem?_cons_succ] at r0 r1
    clear hq
    go_wp2_with fail
    refine bodyPost_ret (v := .agg #[.int .i64 q, .slice none 0 0]) (by simp [results, Try.results20, go_sem, r0, r1]) rfl ⟨.slice none 0 0, by rw [unhide fin], ?_, ?_⟩
    · rw [unhide fin]; exact ⟨by simp, .inl ⟨rfl, rfl⟩⟩
    · exact (B1.setCell (Nat.le_refl _) _).setCell (Nat.le_refl _) _

end Go.Proofs.Ythbiclpifeobkaa
