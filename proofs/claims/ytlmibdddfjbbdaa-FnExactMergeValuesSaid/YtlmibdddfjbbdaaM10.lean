/-
  impl.walkValue: by induction on how many cells there are behind a place.
-/
import Derived.Test.YtlmibdddfjbbdaaM08
import Derived.Deep.LoopGhost
namespace Go.Proofs.Ytlmibdddfjbbdaa
open Go.RowKit
set_option linter.unusedVariables false

/-- What impl.walkValue answers. -/
def wkOut (r : Option (Nat × Nat)) : Value := match r with | none => .agg #[.int .i64 0, .int .i64 0, .bool false] | some (e, d) => .agg #[.int .i64 e, .int .i64 d, .bool true]

theorem wk_none (v : List M.Cl) (f at' : Nat) (c : M.Cl) (K : Option (Nat × Nat)) (h1 : M.walk v (f + 1) at' = (M.kids (M.walk v f) v c c.n.toNat 0 (at' + 1) 0 ByteArray.empty).map fun r => (r.1, r.2 + 1))
    (h2 : M.kids (M.walk v f) v c c.n.toNat 0 (at' + 1) 0 ByteArray.empty = K) (h3 : K = none) : wkOut (M.walk v (f + 1) at') = .agg #[.int .i64 0, .int .i64 0, .bool false] := by rw [h1, h2, h3]; rfl
theorem wk_some (v : List M.Cl) (f at' e d : Nat) (c : M.Cl) (K : Option (Nat × Nat)) (h1 : M.walk v (f + 1) at' = (M.kids (M.walk v f) v c c.n.toNat 0 (at' + 1) 0 ByteArray.empty).map fun r => (r.1, r.2 + 1))
    (h2 : M.kids (M.walk v f) v c c.n.toNat 0 (at' + 1) 0 ByteArray.empty = K) (h3 : K = some (e, d)) : wkOut (M.walk v (f + 1) at') = .agg #[.int .i64 e, .int .i64 ((d : Int) + 1), .bool true] := by rw [h1, h2, h3]; rfl

/-- What is promised of impl.walkValue with f cells at most. -/
def WalkSays (v : List M.Cl) (b off cap f : Nat) : Prop := ∀ (at' : Nat) (w : World), v.length ≤ at' + f → at' < v.length → Row w b off v → b < w.heap.size →
      Calls Try.prog 42 #[.slice (some ⟨b, off, none⟩) v.length cap, .int .i64 at'] w fun e w' => e = .returned (wkOut (M.walk v f at')) ∧ Below w.heap.size w w'

set_option maxRecDepth 100000 in
set_option maxHeartbeats 4000000 in
theorem walk_step (v : List M.Cl) (b off cap f : Nat) (IH : Hid (WalkSays v b off cap f)) (hf2 : f ≤ 200) (hlen : v.length ≤ 200) (hcap : v.length ≤ cap) (hok : ∀ c ∈ v, c.ok) : WalkSays v b off cap (f + 1) := by
  intro at' w hf hat hrow hb
  obtain ⟨c, hc⟩ : ∃ c, c = v.getD at' M.zero := ⟨_, rfl⟩
  obtain ⟨f0, f1, f2, f3, f4⟩ := hrow at' hat
  have hcok := hok _ (getD_mem v at' hat)
  rw [← hc] at f0 f1 f2 f3 f4 hcok
  obtain ⟨⟨k0, k1⟩, ⟨q0, q1⟩, ⟨n0, n1⟩, _, _⟩ := hcok
  have W := hide (walk_eq v f at' c hc)
  have HC := hide hc
  clear hc
  have OK := hide hok
  clear hok
  have nb : b ≠ w.heap.size := by omega
  have nb1 : b ≠ w.heap.size + 1 := by omega
  go_enter Try.func42, Try.ntmps42
  go_wp2_with fail
  go_loopg [6, 18] c.n.toNat (fun g s6 s18 wr => ∃ (k e d : Nat) (last : ByteArray), Hid (g = c.n.toNat - k) ∧ s18 = .int .i64 k ∧ s6 = .string last ∧ k ≤ c.n.toNat ∧ at' + 1 ≤ e ∧ e ≤ v.length ∧ d ≤ 200 ∧
      Hid (M.kids (M.walk v f) v c c.n.toNat 0 (at' + 1) 0 ByteArray.empty = M.kids (M.walk v f) v c (c.n.toNat - k) k e d last) ∧
      Own wr w.heap.size 69 [.int .i64 0, .int .i64 0, .bool false] ∧ Own wr (w.heap.size + 1) 69 [.int .i64 e, .int .i64 ((d : Int) + 1), .bool true] ∧ Below w.heap.size w wr)
  case atStart => exact ⟨0, at' + 1, 0, ByteArray.empty, rfl, rfl, rfl, by omega, by omega, by omega, by omega, rfl, ⟨_, heap_alloc2_old _ _ _, rfl⟩, ⟨_, heap_alloc2_new _ _ _, by simp⟩, ((Below.refl _ _).alloc (Nat.le_refl _) _).alloc (by simp) _⟩
  case round =>
    obtain ⟨k, e, d, last, hg, rfl, rfl, hk, he1, he2, hd2, hkids, hR, hown, hbel⟩ := hrel
    have o0 := hown.cell 0
    have o1 := hown.cell 1
    have o2 := hown.cell 2
    have r0 := hR.cell 0
    have r1 := hR.cell 1
    have r2 := hR.cell 2
    have z0 := hR.frozen 0
    have z1 := hR.frozen 1
    have z2 := hR.frozen 2
    simp only [List.getElem?_cons_zero, List.getElem?_cons_succ] at o0 o1 o2 r0 r1 r2
    have hr := hrow.below hbel hb
    have hbr : b < wr.heap.size := Nat.lt_of_lt_of_le hb hbel.size
    have HB := hbel
    obtain ⟨y0, y1, y2, y3, y4⟩ := hr at' hat
    rw [← unhide HC] at y0 y1 y2 y3 y4
    clear f0 f1 f2 f3 f4 y1 y2 y3 y4
    by_cases hkn : (k : Int) < c.n
    · by_cases hlt : e < v.length
      · obtain ⟨ce, hce⟩ : ∃ ce, ce = v.getD e M.zero := ⟨_, rfl⟩
        obtain ⟨g0, g1, g2, g3, g4⟩ := hr e hlt
        rw [← hce] at g0 g1 g2 g3 g4
        clear g0 g1 g2 g4
        refine round_cases v c ce k e last hlt hce _ ?_ ?_ ?_ ?_ ?_ ?_
        · intro t5 tk hbad
          have tk' : ce.key.toList.isEmpty = false := by simpa using tk
          have fin := hide (wk_none v f at' c _ (unhide W) hkids.out (kids_stop _ v c _ k e d last hbad (by omega)))
          clear hbad hce
          go_wp2_with fail
          refine bodyPost_ret (v := .agg #[.int .i64 0, .int .i64 0, .bool false]) (by simp [results, Try.results42, go_sem, r0, r1, r2]) rfl ⟨(congrArg Ending.returned (unhide fin)).symm, ?_⟩
          exact ((HB.setCell (Nat.le_refl _) _).setCell (Nat.le_refl _) _).setCell (Nat.le_refl _) _
        · intro t5 t6 tk tle hbad
          have fin := hide (wk_none v f at' c _ (unhide W) hkids.out (kids_stop _ v c _ k e d last hbad (by omega)))
          clear hbad hce
          go_wp2_with fail
          refine bodyPost_ret (v := .agg #[.int .i64 0, .int .i64 0, .bool false]) (by simp [results, Try.results42, go_sem, r0, r1, r2]) rfl ⟨(congrArg Ending.returned (unhide fin)).symm, ?_⟩
          exact ((HB.setCell (Nat.le_refl _) _).setCell (Nat.le_refl _) _).setCell (Nat.le_refl _) _
        · intro t5 t6 tk hgood
          have hgd := hide hgood
          clear hgood
          have HCE := hide hce
          clear hce
          go_wp2_with fail
          refine ((unhide IH) e _ ?_ ?_ ?_ ?_).mono ?_
          · omega
          · exact hlt
          · exact hr
          · exact hbr
          rintro e1 w1 ⟨rfl, hb1⟩
          have hown1 := hown.below hb1 hown.lt
          have hR1 := hR.below hb1 hR.lt
          have hb2 : Below w.heap.size w w1 := hbel.trans (hb1.mono hbel.size)
          have hsz : w.heap.size + 1 < w1.heap.size := hown1.lt
          clear o0 o1 o2 r0 r1 r2 z0 z1 z2 y0 g3
          have o0 : ∀ o, (w1.alloc o).cell? ⟨w.heap.size + 1, 0, none⟩ = some (.int .i64 e) := fun o => (hown1.alloc o).cell 0
          have o1 : ∀ o, (w1.alloc o).cell? ⟨w.heap.size + 1, 1, none⟩ = some (.int .i64 ((d : Int) + 1)) := fun o => (hown1.alloc o).cell 1
          have p0 : ∀ o, (w1.alloc o).frozen? ⟨w.heap.size + 1, 0, none⟩ = false := fun o => (hown1.alloc o).frozen 0
          have p1 : ∀ o, (w1.alloc o).frozen? ⟨w.heap.size + 1, 1, none⟩ = false := fun o => (hown1.alloc o).frozen 1
          have o2 : ∀ u o, ((w1.setCell ⟨w.heap.size + 1, 0, none⟩ u).alloc o).cell? ⟨w.heap.size + 1, 1, none⟩ = some (.int .i64 ((d : Int) + 1)) := fun u o => ((hown1.set 0 u).alloc o).cell 1
          have p2 : ∀ u o, ((w1.setCell ⟨w.heap.size + 1, 0, none⟩ u).alloc o).frozen? ⟨w.heap.size + 1, 1, none⟩ = false := fun u o => ((hown1.set 0 u).alloc o).frozen 1
          have r0 : ∀ o, (w1.alloc o).cell? ⟨w.heap.size, 0, none⟩ = some (.int .i64 0) := fun o => (hR1.alloc o).cell 0
          have r1 : ∀ o, (w1.alloc o).cell? ⟨w.heap.size, 1, none⟩ = some (.int .i64 0) := fun o => (hR1.alloc o).cell 1
          have r2 : ∀ o, (w1.alloc o).cell? ⟨w.heap.size, 2, none⟩ = some (.bool false) := fun o => (hR1.alloc o).cell 2
          have z0 : ∀ o, (w1.alloc o).frozen? ⟨w.heap.size, 0, none⟩ = false := fun o => (hR1.alloc o).frozen 0
          have z1 : ∀ o, (w1.alloc o).frozen? ⟨w.heap.size, 1, none⟩ = false := fun o => (hR1.alloc o).frozen 1
          have z2 : ∀ o, (w1.alloc o).frozen? ⟨w.heap.size, 2, none⟩ = false := fun o => (hR1.alloc o).frozen 2
          have hbd := M.walk_bd v f e hlt
          generalize hres : M.walk v f e = res at *
          cases res with
          | none =>
            have fin := hide (wk_none v f at' c _ (unhide W) hkids.out (kids_none _ v c _ k e d last hres (by omega)))
            clear hres hbd
            simp only [wkOut]
            go_wp2_with fail
            refine bodyPost_ret (v := .agg #[.int .i64 0, .int .i64 0, .bool false]) (by simp [results, Try.results42, go_sem, r0, r1, r2]) rfl ⟨(congrArg Ending.returned (unhide fin)).symm, ?_⟩
            exact (((hb2.alloc (by omega) _).setCell (Nat.le_refl _) _).setCell (Nat.le_refl _) _).setCell (Nat.le_refl _) _
          | some r =>
            obtain ⟨e', d'⟩ := r
            have hb3 := hbd _ rfl
            simp only at hb3
            obtain ⟨hb4, hb5, hb6⟩ := hb3
            have nxt := hide (hkids.out.trans (kids_some _ v c _ k e d last (unhide hgd) e' d' hres (by omega)))
            clear hres hbd
            simp only [wkOut]
            by_cases hdd : d < d'
            · go_wp2_with fail
              go_roundg (c.n.toNat - (k + 1))
              case rel => exact ⟨k + 1, e', d', ce.key, rfl, by go_num, rfl, by omega, by omega, by omega, by omega, (by have h := unhide nxt; rw [Nat.max_eq_right (by omega), ← unhide HCE] at h; exact h), ((hR1.setOther _ _ (by simp)).setOther _ _ (by simp)).alloc _, ((hown1.set 0 _).set 1 _).alloc _, ((hb2.setCell (by simp) _).setCell (by simp) _).alloc (by simp; omega) _⟩
              case measure => have := hg.out; omega
            · go_wp2_with fail
              go_roundg (c.n.toNat - (k + 1))
              case rel => exact ⟨k + 1, e', d, ce.key, rfl, by go_num, rfl, by omega, by omega, by omega, by omega, (by have h := unhide nxt; rw [Nat.max_eq_left (by omega), ← unhide HCE] at h; exact h), ((hR1.setOther _ _ (by simp)).setOther _ _ (by simp)).alloc _, ((hown1.set 0 _).set 1 _).alloc _, ((hb2.setCell (by simp) _).setCell (by simp) _).alloc (by simp; omega) _⟩
              case measure => have := hg.out; omega
        · intro t5 t6 tk hgood
          have hgd := hide hgood
          clear hgood
          have HCE := hide hce
          clear hce
          go_wp2_with fail
          refine ((unhide IH) e _ ?_ ?_ ?_ ?_).mono ?_
          · omega
          · exact hlt
          · exact hr
          · exact hbr
          rintro e1 w1 ⟨rfl, hb1⟩
          have hown1 := hown.below hb1 hown.lt
          have hR1 := hR.below hb1 hR.lt
          have hb2 : Below w.heap.size w w1 := hbel.trans (hb1.mono hbel.size)
          have hsz : w.heap.size + 1 < w1.heap.size := hown1.lt
          clear o0 o1 o2 r0 r1 r2 z0 z1 z2 y0 g3
          have o0 : ∀ o, (w1.alloc o).cell? ⟨w.heap.size + 1, 0, none⟩ = some (.int .i64 e) := fun o => (hown1.alloc o).cell 0
          have o1 : ∀ o, (w1.alloc o).cell? ⟨w.heap.size + 1, 1, none⟩ = some (.int .i64 ((d : Int) + 1)) := fun o => (hown1.alloc o).cell 1
          have p0 : ∀ o, (w1.alloc o).frozen? ⟨w.heap.size + 1, 0, none⟩ = false := fun o => (hown1.alloc o).frozen 0
          have p1 : ∀ o, (w1.alloc o).frozen? ⟨w.heap.size + 1, 1, none⟩ = false := fun o => (hown1.alloc o).frozen 1
          have o2 : ∀ u o, ((w1.setCell ⟨w.heap.size + 1, 0, none⟩ u).alloc o).cell? ⟨w.heap.size + 1, 1, none⟩ = some (.int .i64 ((d : Int) + 1)) := fun u o => ((hown1.set 0 u).alloc o).cell 1
          have p2 : ∀ u o, ((w1.setCell ⟨w.heap.size + 1, 0, none⟩ u).alloc o).frozen? ⟨w.heap.size + 1, 1, none⟩ = false := fun u o => ((hown1.set 0 u).alloc o).frozen 1
          have r0 : ∀ o, (w1.alloc o).cell? ⟨w.heap.size, 0, none⟩ = some (.int .i64 0) := fun o => (hR1.alloc o).cell 0
          have r1 : ∀ o, (w1.alloc o).cell? ⟨w.heap.size, 1, none⟩ = some (.int .i64 0) := fun o => (hR1.alloc o).cell 1
          have r2 : ∀ o, (w1.alloc o).cell? ⟨w.heap.size, 2, none⟩ = some (.bool false) := fun o => (hR1.alloc o).cell 2
          have z0 : ∀ o, (w1.alloc o).frozen? ⟨w.heap.size, 0, none⟩ = false := fun o => (hR1.alloc o).frozen 0
          have z1 : ∀ o, (w1.alloc o).frozen? ⟨w.heap.size, 1, none⟩ = false := fun o => (hR1.alloc o).frozen 1
          have z2 : ∀ o, (w1.alloc o).frozen? ⟨w.heap.size, 2, none⟩ = false := fun o => (hR1.alloc o).frozen 2
          have hbd := M.walk_bd v f e hlt
          generalize hres : M.walk v f e = res at *
          cases res with
          | none =>
            have fin := hide (wk_none v f at' c _ (unhide W) hkids.out (kids_none _ v c _ k e d last hres (by omega)))
            clear hres hbd
            simp only [wkOut]
            go_wp2_with fail
            refine bodyPost_ret (v := .agg #[.int .i64 0, .int .i64 0, .bool false]) (by simp [results, Try.results42, go_sem, r0, r1, r2]) rfl ⟨(congrArg Ending.returned (unhide fin)).symm, ?_⟩
            exact (((hb2.alloc (by omega) _).setCell (Nat.le_refl _) _).setCell (Nat.le_refl _) _).setCell (Nat.le_refl _) _
          | some r =>
            obtain ⟨e', d'⟩ := r
            have hb3 := hbd _ rfl
            simp only at hb3
            obtain ⟨hb4, hb5, hb6⟩ := hb3
            have nxt := hide (hkids.out.trans (kids_some _ v c _ k e d last (unhide hgd) e' d' hres (by omega)))
            clear hres hbd
            simp only [wkOut]
            by_cases hdd : d < d'
            · go_wp2_with fail
              go_roundg (c.n.toNat - (k + 1))
              case rel => exact ⟨k + 1, e', d', ce.key, rfl, by go_num, rfl, by omega, by omega, by omega, by omega, (by have h := unhide nxt; rw [Nat.max_eq_right (by omega), ← unhide HCE] at h; exact h), ((hR1.setOther _ _ (by simp)).setOther _ _ (by simp)).alloc _, ((hown1.set 0 _).set 1 _).alloc _, ((hb2.setCell (by simp) _).setCell (by simp) _).alloc (by simp; omega) _⟩
              case measure => have := hg.out; omega
            · go_wp2_with fail
              go_roundg (c.n.toNat - (k + 1))
              case rel => exact ⟨k + 1, e', d, ce.key, rfl, by go_num, rfl, by omega, by omega, by omega, by omega, (by have h := unhide nxt; rw [Nat.max_eq_left (by omega), ← unhide HCE] at h; exact h), ((hR1.setOther _ _ (by simp)).setOther _ _ (by simp)).alloc _, ((hown1.set 0 _).set 1 _).alloc _, ((hb2.setCell (by simp) _).setCell (by simp) _).alloc (by simp; omega) _⟩
              case measure => have := hg.out; omega
        · intro t5 t6 tk tle hgood
          have hgd := hide hgood
          clear hgood
          have HCE := hide hce
          clear hce
          go_wp2_with fail
          refine ((unhide IH) e _ ?_ ?_ ?_ ?_).mono ?_
          · omega
          · exact hlt
          · exact hr
          · exact hbr
          rintro e1 w1 ⟨rfl, hb1⟩
          have hown1 := hown.below hb1 hown.lt
          have hR1 := hR.below hb1 hR.lt
          have hb2 : Below w.heap.size w w1 := hbel.trans (hb1.mono hbel.size)
          have hsz : w.heap.size + 1 < w1.heap.size := hown1.lt
          clear o0 o1 o2 r0 r1 r2 z0 z1 z2 y0 g3
          have o0 : ∀ o, (w1.alloc o).cell? ⟨w.heap.size + 1, 0, none⟩ = some (.int .i64 e) := fun o => (hown1.alloc o).cell 0
          have o1 : ∀ o, (w1.alloc o).cell? ⟨w.heap.size + 1, 1, none⟩ = some (.int .i64 ((d : Int) + 1)) := fun o => (hown1.alloc o).cell 1
          have p0 : ∀ o, (w1.alloc o).frozen? ⟨w.heap.size + 1, 0, none⟩ = false := fun o => (hown1.alloc o).frozen 0
          have p1 : ∀ o, (w1.alloc o).frozen? ⟨w.heap.size + 1, 1, none⟩ = false := fun o => (hown1.alloc o).frozen 1
          have o2 : ∀ u o, ((w1.setCell ⟨w.heap.size + 1, 0, none⟩ u).alloc o).cell? ⟨w.heap.size + 1, 1, none⟩ = some (.int .i64 ((d : Int) + 1)) := fun u o => ((hown1.set 0 u).alloc o).cell 1
          have p2 : ∀ u o, ((w1.setCell ⟨w.heap.size + 1, 0, none⟩ u).alloc o).frozen? ⟨w.heap.size + 1, 1, none⟩ = false := fun u o => ((hown1.set 0 u).alloc o).frozen 1
          have r0 : ∀ o, (w1.alloc o).cell? ⟨w.heap.size, 0, none⟩ = some (.int .i64 0) := fun o => (hR1.alloc o).cell 0
          have r1 : ∀ o, (w1.alloc o).cell? ⟨w.heap.size, 1, none⟩ = some (.int .i64 0) := fun o => (hR1.alloc o).cell 1
          have r2 : ∀ o, (w1.alloc o).cell? ⟨w.heap.size, 2, none⟩ = some (.bool false) := fun o => (hR1.alloc o).cell 2
          have z0 : ∀ o, (w1.alloc o).frozen? ⟨w.heap.size, 0, none⟩ = false := fun o => (hR1.alloc o).frozen 0
          have z1 : ∀ o, (w1.alloc o).frozen? ⟨w.heap.size, 1, none⟩ = false := fun o => (hR1.alloc o).frozen 1
          have z2 : ∀ o, (w1.alloc o).frozen? ⟨w.heap.size, 2, none⟩ = false := fun o => (hR1.alloc o).frozen 2
          have hbd := M.walk_bd v f e hlt
          generalize hres : M.walk v f e = res at *
          cases res with
          | none =>
            have fin := hide (wk_none v f at' c _ (unhide W) hkids.out (kids_none _ v c _ k e d last hres (by omega)))
            clear hres hbd
            simp only [wkOut]
            go_wp2_with fail
            refine bodyPost_ret (v := .agg #[.int .i64 0, .int .i64 0, .bool false]) (by simp [results, Try.results42, go_sem, r0, r1, r2]) rfl ⟨(congrArg Ending.returned (unhide fin)).symm, ?_⟩
            exact (((hb2.alloc (by omega) _).setCell (Nat.le_refl _) _).setCell (Nat.le_refl _) _).setCell (Nat.le_refl _) _
          | some r =>
            obtain ⟨e', d'⟩ := r
            have hb3 := hbd _ rfl
            simp only at hb3
            obtain ⟨hb4, hb5, hb6⟩ := hb3
            have nxt := hide (hkids.out.trans (kids_some _ v c _ k e d last (unhide hgd) e' d' hres (by omega)))
            clear hres hbd
            simp only [wkOut]
            by_cases hdd : d < d'
            · go_wp2_with fail
              go_roundg (c.n.toNat - (k + 1))
              case rel => exact ⟨k + 1, e', d', ce.key, rfl, by go_num, rfl, by omega, by omega, by omega, by omega, (by have h := unhide nxt; rw [Nat.max_eq_right (by omega), ← unhide HCE] at h; exact h), ((hR1.setOther _ _ (by simp)).setOther _ _ (by simp)).alloc _, ((hown1.set 0 _).set 1 _).alloc _, ((hb2.setCell (by simp) _).setCell (by simp) _).alloc (by simp; omega) _⟩
              case measure => have := hg.out; omega
            · go_wp2_with fail
              go_roundg (c.n.toNat - (k + 1))
              case rel => exact ⟨k + 1, e', d, ce.key, rfl, by go_num, rfl, by omega, by omega, by omega, by omega, (by have h := unhide nxt; rw [Nat.max_eq_left (by omega), ← unhide HCE] at h; exact h), ((hR1.setOther _ _ (by simp)).setOther _ _ (by simp)).alloc _, ((hown1.set 0 _).set 1 _).alloc _, ((hb2.setCell (by simp) _).setCell (by simp) _).alloc (by simp; omega) _⟩
              case measure => have := hg.out; omega
        · intro t5 t6 hgood
          have hgd := hide hgood
          clear hgood
          have HCE := hide hce
          clear hce
          go_wp2_with fail
          refine ((unhide IH) e _ ?_ ?_ ?_ ?_).mono ?_
          · omega
          · exact hlt
          · exact hr
          · exact hbr
          rintro e1 w1 ⟨rfl, hb1⟩
          have hown1 := hown.below hb1 hown.lt
          have hR1 := hR.below hb1 hR.lt
          have hb2 : Below w.heap.size w w1 := hbel.trans (hb1.mono hbel.size)
          have hsz : w.heap.size + 1 < w1.heap.size := hown1.lt
          clear o0 o1 o2 r0 r1 r2 z0 z1 z2 y0 g3
          have o0 : ∀ o, (w1.alloc o).cell? ⟨w.heap.size + 1, 0, none⟩ = some (.int .i64 e) := fun o => (hown1.alloc o).cell 0
          have o1 : ∀ o, (w1.alloc o).cell? ⟨w.heap.size + 1, 1, none⟩ = some (.int .i64 ((d : Int) + 1)) := fun o => (hown1.alloc o).cell 1
          have p0 : ∀ o, (w1.alloc o).frozen? ⟨w.heap.size + 1, 0, none⟩ = false := fun o => (hown1.alloc o).frozen 0
          have p1 : ∀ o, (w1.alloc o).frozen? ⟨w.heap.size + 1, 1, none⟩ = false := fun o => (hown1.alloc o).frozen 1
          have o2 : ∀ u o, ((w1.setCell ⟨w.heap.size + 1, 0, none⟩ u).alloc o).cell? ⟨w.heap.size + 1, 1, none⟩ = some (.int .i64 ((d : Int) + 1)) := fun u o => ((hown1.set 0 u).alloc o).cell 1
          have p2 : ∀ u o, ((w1.setCell ⟨w.heap.size + 1, 0, none⟩ u).alloc o).frozen? ⟨w.heap.size + 1, 1, none⟩ = false := fun u o => ((hown1.set 0 u).alloc o).frozen 1
          have r0 : ∀ o, (w1.alloc o).cell? ⟨w.heap.size, 0, none⟩ = some (.int .i64 0) := fun o => (hR1.alloc o).cell 0
          have r1 : ∀ o, (w1.alloc o).cell? ⟨w.heap.size, 1, none⟩ = some (.int .i64 0) := fun o => (hR1.alloc o).cell 1
          have r2 : ∀ o, (w1.alloc o).cell? ⟨w.heap.size, 2, none⟩ = some (.bool false) := fun o => (hR1.alloc o).cell 2
          have z0 : ∀ o, (w1.alloc o).frozen? ⟨w.heap.size, 0, none⟩ = false := fun o => (hR1.alloc o).frozen 0
          have z1 : ∀ o, (w1.alloc o).frozen? ⟨w.heap.size, 1, none⟩ = false := fun o => (hR1.alloc o).frozen 1
          have z2 : ∀ o, (w1.alloc o).frozen? ⟨w.heap.size, 2, none⟩ = false := fun o => (hR1.alloc o).frozen 2
          have hbd := M.walk_bd v f e hlt
          generalize hres : M.walk v f e = res at *
          cases res with
          | none =>
            have fin := hide (wk_none v f at' c _ (unhide W) hkids.out (kids_none _ v c _ k e d last hres (by omega)))
            clear hres hbd
            simp only [wkOut]
            go_wp2_with fail
            refine bodyPost_ret (v := .agg #[.int .i64 0, .int .i64 0, .bool false]) (by simp [results, Try.results42, go_sem, r0, r1, r2]) rfl ⟨(congrArg Ending.returned (unhide fin)).symm, ?_⟩
            exact (((hb2.alloc (by omega) _).setCell (Nat.le_refl _) _).setCell (Nat.le_refl _) _).setCell (Nat.le_refl _) _
          | some r =>
            obtain ⟨e', d'⟩ := r
            have hb3 := hbd _ rfl
            simp only at hb3
            obtain ⟨hb4, hb5, hb6⟩ := hb3
            have nxt := hide (hkids.out.trans (kids_some _ v c _ k e d last (unhide hgd) e' d' hres (by omega)))
            clear hres hbd
            simp only [wkOut]
            by_cases hdd : d < d'
            · go_wp2_with fail
              go_roundg (c.n.toNat - (k + 1))
              case rel => exact ⟨k + 1, e', d', ce.key, rfl, by go_num, rfl, by omega, by omega, by omega, by omega, (by have h := unhide nxt; rw [Nat.max_eq_right (by omega), ← unhide HCE] at h; exact h), ((hR1.setOther _ _ (by simp)).setOther _ _ (by simp)).alloc _, ((hown1.set 0 _).set 1 _).alloc _, ((hb2.setCell (by simp) _).setCell (by simp) _).alloc (by simp; omega) _⟩
              case measure => have := hg.out; omega
            · go_wp2_with fail
              go_roundg (c.n.toNat - (k + 1))
              case rel => exact ⟨k + 1, e', d, ce.key, rfl, by go_num, rfl, by omega, by omega, by omega, by omega, (by have h := unhide nxt; rw [Nat.max_eq_left (by omega), ← unhide HCE] at h; exact h), ((hR1.setOther _ _ (by simp)).setOther _ _ (by simp)).alloc _, ((hown1.set 0 _).set 1 _).alloc _, ((hb2.setCell (by simp) _).setCell (by simp) _).alloc (by simp; omega) _⟩
              case measure => have := hg.out; omega
      · have fin := hide (wk_none v f at' c _ (unhide W) hkids.out (kids_stop _ v c _ k e d last (bad_end v c k e last (by omega)) (by omega)))
        go_wp2_with fail
        refine bodyPost_ret (v := .agg #[.int .i64 0, .int .i64 0, .bool false]) (by simp [results, Try.results42, go_sem, r0, r1, r2]) rfl ⟨(congrArg Ending.returned (unhide fin)).symm, ?_⟩
        exact ((HB.setCell (Nat.le_refl _) _).setCell (Nat.le_refl _) _).setCell (Nat.le_refl _) _
    · have hz : c.n.toNat - k = 0 := by omega
      have fin := hide (wk_some v f at' e d c _ (unhide W) hkids.out (by rw [hz]; rfl))
      clear hz
      go_wp2_with fail
      refine bodyPost_ret (v := .agg #[.int .i64 e, .int .i64 ((d : Int) + 1), .bool true]) (by simp [results, Try.results42, go_sem, r0, r1, r2]) rfl ⟨(congrArg Ending.returned (unhide fin)).symm, ?_⟩
      exact ((HB.setCell (Nat.le_refl _) _).setCell (Nat.le_refl _) _).setCell (Nat.le_refl _) _

theorem walk_any (v : List M.Cl) (b off cap : Nat) (hlen : v.length ≤ 200) (hcap : v.length ≤ cap) (hok : ∀ c ∈ v, c.ok) (f : Nat) (hf : f ≤ 201) : WalkSays v b off cap f := by
  induction f with
  | zero => intro at' w h1 h2; omega
  | succ f ih => exact walk_step v b off cap f (ih (by omega)) (by omega) hlen hcap hok

end Go.Proofs.Ytlmibdddfjbbdaa
