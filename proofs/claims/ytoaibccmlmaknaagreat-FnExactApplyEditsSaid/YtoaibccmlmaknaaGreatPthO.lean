/-
  impl.dropSteps by induction on the steps.
  spec.l13DropIndex.
  spec.l13Drop by induction on the steps.
  impl.DropPath and spec.DropPath, whole.
-/
import Derived.Test.YtoaibccmlmaknaaGreatPthV
import Derived.Test.YtoaibccmlmaknaaGreatPthN
import Derived.Test.YtoaibccmlmaknaaGreatDrpS
import Derived.Maps.AppendAt
namespace Go.Proofs.YtoaibccmlmaknaaGreat
open Go.RowKit
set_option linter.unusedVariables false
set_option linter.unusedSimpArgs false

theorem Pth.dropS_at {v : List M.Cl} {c d : M.Cl} {cs : List M.Cl} {R : Int × List M.Cl} (h : atIn v c = R) (hz : R.1 ≠ 0) : Pth.dropS v (c :: d :: cs) = R := by rw [Pth.dropS, h, if_neg hz]
theorem Pth.dropS_null {v l : List M.Cl} {c d : M.Cl} {cs : List M.Cl} (h : atIn v c = (0, l)) (hk : (l.getD 0 M.zero).kind = 0) : Pth.dropS v (c :: d :: cs) = (0, v) := by rw [Pth.dropS, h]; simp only [if_pos]; rw [if_pos hk]
theorem Pth.dropS_in {v l : List M.Cl} {c d : M.Cl} {cs : List M.Cl} {R : Int × List M.Cl} (h : atIn v c = (0, l)) (hk : (l.getD 0 M.zero).kind ≠ 0) (h2 : Pth.dropS l (d :: cs) = R) (hz : R.1 ≠ 0) : Pth.dropS v (c :: d :: cs) = R := by rw [Pth.dropS, h]; simp only [if_pos]; rw [if_neg hk, h2, if_neg hz]
theorem Pth.dropS_ok {v l l2 : List M.Cl} {c d : M.Cl} {cs : List M.Cl} (h : atIn v c = (0, l)) (hk : (l.getD 0 M.zero).kind ≠ 0) (h2 : Pth.dropS l (d :: cs) = (0, l2)) : Pth.dropS v (c :: d :: cs) = Pth.setS v [c] l2 := by rw [Pth.dropS, h]; simp only [if_pos]; rw [if_neg hk, h2]; simp only [if_pos]
/-- What impl.dropSteps tells of steps, for all values and places. -/
def Pth.DrpI (cs : List M.Cl) : Prop := ∀ (v : List M.Cl) (b off cap b' o cap' : Nat) (w : World), M.valueFault v = 0 → Row w b off v → b < w.heap.size → v.length ≤ cap → Row w b' o cs → b' < w.heap.size → cs.length ≤ cap' → cap' ≤ 9223372036854775807 →
  Calls Tryz.prog 70 #[.slice (some ⟨b, off, none⟩) v.length cap, .slice (some ⟨b', o, none⟩) cs.length cap'] w (Ans w (Pth.dropS v cs))

set_option maxRecDepth 100000 in
set_option maxHeartbeats 1000000 in
theorem dropSteps_nil : Pth.DrpI [] := by
  intro v b off cap b' o cap' w hv hrow hb hcap hrow' hb' hcap' hc'
  have HN := hide (fun y => nullResult_any (w.alloc y))
  have E := hide (show Pth.dropS v [] = (0, [M.zero]) from rfl)
  clear hv hrow hrow'
  rw [List.length_nil]
  go_enter Tryz.func70, Tryz.ntmps70
  go_wp2_with fail
  refine ((unhide HN) _).mono ?_
  rintro e1 w1 ⟨s1, rfl, hr1, hb1⟩
  simp only [World.size_alloc] at hr1 hb1
  have R1 : Own w1 w.heap.size 49 [.int .i64 0, .slice none 0 0] := Own.below ⟨_, heap_alloc_new _ _, rfl⟩ hb1 (by omega)
  have F := hide (Pth.ret hr1 (((Below.refl _ _).alloc (Nat.le_refl _) _).trans (hb1.mono (by omega))))
  obtain ⟨a1, n1, c1, rfl⟩ := hr1.shape
  clear hr1 hb1 HN
  have p0 := R1.cell 0
  have p1 := R1.cell 1
  simp only [List.getElem?_cons_zero, List.getElem?_cons_succ] at p0 p1
  have y0 := R1.frozen 0
  have y1 := R1.frozen 1
  go_wp2_with fail
  refine bodyPost_ret (v := .agg #[.int .i64 0, .slice a1 n1 c1]) (by simp [results, Tryz.results70, go_sem, p0, p1]) rfl (ans_of (unhide E) ((unhide F) _ _).1 ((unhide F) _ _).2)

set_option maxRecDepth 100000 in
set_option maxHeartbeats 1000000 in
theorem dropSteps_one (c : M.Cl) (hst : Pth.Stp c) : Pth.DrpI [c] := by
  intro v b off cap b' o cap' w hv hrow hb hcap hrow' hb' hcap' hc'
  have B0 : ∀ y, Below w.heap.size w (w.alloc y) := fun y => (Below.refl _ _).alloc (Nat.le_refl _) y
  have h0 := fun y => (hrow'.below (B0 y) hb') 0 (by simp)
  simp only [Nat.zero_mul, Nat.add_zero, List.getD_cons_zero] at h0
  have HD := hide (fun y => dropStep_any v c b off cap (w.alloc y) hv hst (hrow.below (B0 y) hb) (by simp; omega) hcap)
  have E := hide (show Pth.dropS v [c] = Pth.outC v c from rfl)
  obtain ⟨f0, f1, f2, f3, f4⟩ := h0 (.cells #[.int .i64 0, .slice none 0 0] 49)
  clear hv hrow hrow' h0 hst
  rw [List.length_cons, List.length_nil, Nat.zero_add] at hcap' ⊢
  generalize Pth.outC v c = R at *
  obtain ⟨rc, rl⟩ := R
  go_enter Tryz.func70, Tryz.ntmps70
  go_wp2_with fail
  refine ((unhide HD) _).mono ?_
  rintro e1 w1 ⟨s1, rfl, hr1, hb1⟩
  simp only [World.size_alloc] at hr1 hb1
  have R1 : Own w1 w.heap.size 49 [.int .i64 0, .slice none 0 0] := Own.below ⟨_, heap_alloc_new _ _, rfl⟩ hb1 (by omega)
  have F := hide (Pth.ret hr1 (((Below.refl _ _).alloc (Nat.le_refl _) _).trans (hb1.mono (by omega))))
  obtain ⟨a1, n1, c1, rfl⟩ := hr1.shape
  clear hr1 hb1 HD f0 f1 f2 f3 f4
  have p0 := R1.cell 0
  have p1 := R1.cell 1
  simp only [List.getElem?_cons_zero, List.getElem?_cons_succ] at p0 p1
  have y0 := R1.frozen 0
  have y1 := R1.frozen 1
  go_wp2_with fail
  refine bodyPost_ret (v := .agg #[.int .i64 rc, .slice a1 n1 c1]) (by simp [results, Tryz.results70, go_sem, p0, p1]) rfl (ans_of (unhide E) ((unhide F) _ _).1 ((unhide F) _ _).2)

set_option maxRecDepth 100000 in
set_option maxHeartbeats 2000000 in
theorem dropSteps_more (c d : M.Cl) (cs : List M.Cl) (hst : ∀ x ∈ c :: d :: cs, Pth.Stp x) (ih : Hid (Pth.DrpI (d :: cs))) : Pth.DrpI (c :: d :: cs) := by
  intro v b off cap b' o cap' w hv hrow hb hcap hrow' hb' hcap' hc'
  have hlen := Pth.lens hv
  have hc1 := hst c (by simp)
  rw [List.length_cons, List.length_cons] at hcap' ⊢
  obtain ⟨o', hrt, ho1, ho2⟩ := Pth.sliced_tail hrow' (by rw [List.length_cons]; exact hcap')
  have ho1 := hide (ho1 (by omega))
  have hr1 : Row w b' o [c] := by
    intro i hi
    have hi0 : i = 0 := by simp at hi; exact hi
    subst hi0
    exact hrow' 0 (by simp)
  have HGA := hide (fun W (h : Below w.heap.size w W) => implGetAt_any v b off cap [c] b' o cap' W (hrow.below h hb) (Nat.lt_of_lt_of_le hb h.size) (by omega) hcap (Pth.oks hv) (hr1.below h hb') (Nat.lt_of_lt_of_le hb' h.size) (by simp) (by simp; omega) (Pth.oks hc1.val))
  rw [Pth.ga hv hc1] at HGA
  have HIH := hide (fun u b2 c2 W (h : Below w.heap.size w W) hu r hb2 hc2 => ih.out u b2 0 c2 b' o' (cap' - 1) W hu r hb2 hc2 (hrt.below h hb') (Nat.lt_of_lt_of_le hb' h.size) (by rw [List.length_cons]; omega) (by omega))
  simp only [List.length_cons] at HIH
  have HSET := hide (fun u b2 c2 W (h : Below w.heap.size w W) (hu : M.valueFault u = 0) r hb2 hc2 => setSteps_any [c] u hu (fun x hx => by simp at hx; subst hx; exact hc1) v b off cap b' o cap' b2 0 c2 W hv (hrow.below h hb) (Nat.lt_of_lt_of_le hb h.size) hcap (hr1.below h hb') (Nat.lt_of_lt_of_le hb' h.size) (by simp; omega) hc' r hb2 hc2)
  simp only [List.length_cons, List.length_nil, Nat.zero_add] at HSET
  have HCL := hide (fun W (h : Below w.heap.size w W) => clone_any v b off cap W (hrow.below h hb) (Nat.lt_of_lt_of_le hb h.size) (by omega))
  have HGD := hide (Pth.at_gd hv c)
  have SGD := hide (fun u (hu : M.valueFault u = 0) => Pth.dropS_gd hu (d :: cs))
  have L0 : (((cs.length + 1 + 1 : Nat) : Int) == 0) = false := by simp; omega
  have L1 : (((cs.length + 1 + 1 : Nat) : Int) == 1) = false := by simp; omega
  have L2 : (0 : Int) < ((cs.length + 1 + 1 : Nat) : Int) := by omega
  have L3 : Hid ((((cs.length : Int) + 1 + 1) == 0) = false) := hide (by simp; omega)
  have L4 : Hid ((((cs.length : Int) + 1 + 1) == 1) = false) := hide (by simp; omega)
  have hcp1 : 1 ≤ cap' := by omega
  have hcp2 : (1 : Int) ≤ (cap' : Int) := by omega
  obtain ⟨W0, hW0⟩ : ∃ W0, W0 = w.alloc (.cells #[.int .i64 0, .slice none 0 0] 49) := ⟨_, rfl⟩
  have B0 : Below w.heap.size w W0 := by rw [hW0]; exact (Below.refl _ _).alloc (Nat.le_refl _) _
  have R0 : Own W0 w.heap.size 49 [.int .i64 0, .slice none 0 0] := by rw [hW0]; exact ⟨_, heap_alloc_new _ _, rfl⟩
  have hR0 := hide R0
  have SZ : w.heap.size + 1 ≤ W0.heap.size := R0.lt
  clear hst ih hv hrow hrow' hrt hr1 R0 ho2 hc1
  go_enter Tryz.func70, Tryz.ntmps70
  go_upto_region 2 with fail
  rw [← hW0]
  clear hW0
  go_upto_region 6 with fail
  generalize hR : atIn v c = R at *
  have HRR := hide hR
  clear hR
  obtain ⟨rc, rl⟩ := R
  go_wp2_with fail
  refine ((unhide HGA) _ B0).mono ?_
  rintro e2 w2 ⟨s2, rfl, hr2, hb2⟩
  obtain ⟨a2, n2, c2, rfl⟩ := hr2.shape
  obtain ⟨W2, hW2⟩ : ∃ W2, W2 = w2.alloc (.cells #[.int .i64 rc, .slice a2 n2 c2] 49) := ⟨_, rfl⟩
  have O2 : Own W2 w2.heap.size 49 [.int .i64 rc, .slice a2 n2 c2] := by rw [hW2]; exact ⟨_, heap_alloc_new _ _, rfl⟩
  have R2 : Own W2 w.heap.size 49 [.int .i64 0, .slice none 0 0] := by rw [hW2]; exact ((unhide hR0).below hb2 (unhide hR0).lt).alloc _
  have V2 : Res W2 (w.heap.size + 1) (.slice a2 n2 c2) rl := by rw [hW2]; exact (hr2.alloc _).mono SZ
  have C2 : Below w.heap.size w W2 := by rw [hW2]; exact (B0.trans (hb2.mono B0.size)).alloc (by have := B0.size; have := hb2.size; omega) _
  clear hr2 hb2 HGA hR0 B0
  generalize hg2 : w2.heap.size = g2 at *
  have p0 := R2.cell 0
  have p1 := R2.cell 1
  simp only [List.getElem?_cons_zero, List.getElem?_cons_succ] at p0 p1
  have y0 := R2.frozen 0
  have y1 := R2.frozen 1
  have u0 := O2.cell 0
  have u1 := O2.cell 1
  simp only [List.getElem?_cons_zero, List.getElem?_cons_succ] at u0 u1
  go_upto_region 7 with fail
  rw [← hW2]
  clear hW2 hg2
  by_cases hz : rc = 0
  · subst hz
    have hrl : M.valueFault rl = 0 := (unhide HGD).ok rfl
    obtain ⟨b3, c3', hsh, hc3, hl3, hlt3, hrw3⟩ := V2.rowedQ (Pth.val_ne hrl)
    simp only [Value.slice.injEq] at hsh
    obtain ⟨rfl, rfl, rfl⟩ := hsh
    have hrll := (Pth.lens hrl).1
    have hrlI : (0 : Int) < (rl.length : Int) := by omega
    obtain ⟨k0, _, _, _, _⟩ := hrw3 0 (by omega)
    simp only [Nat.zero_mul, Nat.add_zero] at k0
    by_cases hk0 : (rl.getD 0 M.zero).kind = 0
    · have E := hide (Pth.dropS_null (d := d) (cs := cs) (unhide HRR) hk0)
      rw [hk0] at k0
      have SZ2 : w.heap.size + 1 ≤ W2.heap.size := R2.lt
      clear hk0 HIH HSET HRR SGD HGD V2 O2
      go_wp2_with fail
      refine ((unhide HCL) _ C2).mono ?_
      rintro e3 w3 ⟨s3, rfl, hr3, hb3⟩
      have R3 := R2.below hb3 R2.lt
      have F := hide (Pth.ret (hr3.mono SZ2) (C2.trans (hb3.mono C2.size)))
      obtain ⟨a3, n3, c3, rfl⟩ := hr3.shape
      clear p0 p1 y0 y1 u0 u1 k0 hr3 hb3 R2
      have p0 := R3.cell 0
      have p1 := R3.cell 1
      simp only [List.getElem?_cons_zero, List.getElem?_cons_succ] at p0 p1
      have y0 := R3.frozen 0
      have y1 := R3.frozen 1
      go_wp2_with fail
      refine bodyPost_ret (v := .agg #[.int .i64 0, .slice a3 n3 c3]) (by simp [results, Tryz.results70, go_sem, p0, p1]) rfl (ans_of (unhide E) ((unhide F) _ _).1 ((unhide F) _ _).2)
    have HC := hide (fun W (hW : Below W2.heap.size W2 W) => (unhide HIH) rl b3 c2 W (C2.trans (hW.mono C2.size)) hrl (hrw3.below hW hlt3) (Nat.lt_of_lt_of_le hlt3 hW.size) hc3)
    have SG := hide ((unhide SGD) rl hrl)
    have EIN := hide (fun R h2 hz => Pth.dropS_in (d := d) (cs := cs) (R := R) (unhide HRR) hk0 h2 hz)
    have EOK := hide (fun l2 h2 => Pth.dropS_ok (d := d) (cs := cs) (l2 := l2) (unhide HRR) hk0 h2)
    have kn : ((rl.getD 0 M.zero).kind == 0) = false := by rw [beq_eq_false_iff_ne]; exact hk0
    clear V2 hrw3 HIH SGD HRR HGD hk0 HCL
    generalize (rl.getD 0 M.zero).kind = kd at *
    generalize hR2 : Pth.dropS rl (d :: cs) = RR at *
    clear hR2
    obtain ⟨rc2, rl2⟩ := RR
    have KEEP := hide (fun W (hW : Below W2.heap.size W2 W) => (hW.cell O2.lt (p := ⟨g2, 1, none⟩)).trans u1)
    have BR := Below.refl W2.heap.size W2
    have hO2 := hide O2
    have hR2 := hide R2
    have SZ2 : w.heap.size + 1 ≤ W2.heap.size := R2.lt
    clear O2 R2
    go_upto_region 11 with fail
    clear u0 u1 k0
    refine Z.region 6 (fun w' => Below W2.heap.size W2 w') (by kernel_rfl) BR.drew (fun hHeld => ?_)
    refine Z.take (i := 0) (d := 36) (v := .pointer (some ⟨g2, 1, none⟩)) rfl rfl (by kernel_rfl) (by kernel_rfl) (by kernel_rfl) (by kernel_rfl) (fun _ _ _ h => h) (Or.inl ⟨by rfl, ?_⟩) hHeld ?_
    · intro w' hSw; go_simp
    simp only [Act.put, List.setIfInBounds_toArray, List.set_cons_zero, List.set_cons_succ]
    refine Z.take (i := 1) (d := 37) (v := .slice (some ⟨b3, 0, none⟩) rl.length c2) rfl rfl (by kernel_rfl) (by kernel_rfl) (by kernel_rfl) (by kernel_rfl) (fun _ _ _ h => h) (Or.inl ⟨by rfl, ?_⟩) hHeld ?_
    · intro w' hSw; have g1 := (unhide KEEP) _ hSw; go_simp
    simp only [Act.put, List.setIfInBounds_toArray, List.set_cons_zero, List.set_cons_succ]
    refine Z.take (i := 2) (d := 38) (v := .slice (some ⟨b', o, none⟩) (cs.length + 1 + 1) cap') rfl rfl (by kernel_rfl) (by kernel_rfl) (by kernel_rfl) (by kernel_rfl) (fun _ _ _ h => h) (Or.inl ⟨by rfl, ?_⟩) hHeld ?_
    · intro w' hSw; go_simp
    simp only [Act.put, List.setIfInBounds_toArray, List.set_cons_zero, List.set_cons_succ]
    refine Z.take (i := 3) (d := 39) (v := .slice (some ⟨b', o', none⟩) (cs.length + 1) (cap' - 1)) rfl rfl (by kernel_rfl) (by kernel_rfl) (by kernel_rfl) (by kernel_rfl) (fun _ _ _ h => h) (Or.inl ⟨by rfl, ?_⟩) hHeld ?_
    · intro w' hSw; have e2 := unhide ho1; have e4 : 1 < cap' := by omega
      have e5 : (1 : Int) ≤ (cs.length : Int) + 1 + 1 := by omega
      have e6 : cap' ≠ 1 := by omega
      subst e2
      go_simp
      try omega
    simp only [Act.put, List.setIfInBounds_toArray, List.set_cons_zero, List.set_cons_succ]
    refine Z.ready (rs := [4, 5]) (by kernel_rfl) (by simp) (Z.call_cons (i := 4) rfl (by rfl) (fun K hK => ?_) (Z.val_cons (i := 5) (d := 6) (v := .pointer (some ⟨W2.heap.size, 0, none⟩)) (w' := (W2.drew).alloc (.cells #[.int .i64 0, .slice none 0 0] 49)) rfl (by rfl) (fun K hK => ?_) (fun _ => BR.drew.alloc (Nat.le_refl _) _) ?_ Z.All.nil))
    · go_simp
      refine ((unhide HC) _ BR.drew).mono ?_
      rintro e3 w3 ⟨s3, rfl, hr3, hb3⟩
      have hb3' : Below W2.heap.size W2 w3 := BR.drew.trans (hb3.mono (Nat.le_refl _))
      obtain ⟨a3, n3, c3, rfl⟩ := hr3.shape
      have hr3' : Res w3 W2.heap.size (.slice a3 n3 c3) rl2 := hr3
      go_simp
      refine hK.out _ _ (fun _ => hb3') ?_
      clear hK K
      try simp only [Act.put, List.setIfInBounds_toArray, List.set_cons_zero, List.set_cons_succ]
      obtain ⟨W3, hW3⟩ : ∃ W3, W3 = w3.alloc (.cells #[.int .i64 rc2, .slice a3 n3 c3] 49) := ⟨_, rfl⟩
      have O3 : Own W3 w3.heap.size 49 [.int .i64 rc2, .slice a3 n3 c3] := by rw [hW3]; exact ⟨_, heap_alloc_new _ _, rfl⟩
      have R3 : Own W3 w.heap.size 49 [.int .i64 0, .slice none 0 0] := by rw [hW3]; exact ((unhide hR2).below hb3' (unhide hR2).lt).alloc _
      have V3 : Res W3 (w.heap.size + 1) (.slice a3 n3 c3) rl2 := by rw [hW3]; exact (hr3'.alloc _).mono SZ2
      have C3 : Below w.heap.size w W3 := by rw [hW3]; exact (C2.trans (hb3'.mono C2.size)).alloc (by have := C2.size; have := hb3'.size; omega) _
      refine Z.ready (rs := [5]) (by kernel_rfl) (by simp) (Z.val_cons (i := 5) (d := 6) (v := .pointer (some ⟨w3.heap.size, 0, none⟩)) (w' := w3.alloc (.cells #[.int .i64 0, .slice none 0 0] 49)) rfl (by rfl) (fun K hK => ?_) (fun _ => hb3'.alloc (by have := hb3'.size; omega) _) ?_ Z.All.nil)
      · go_simp
        exact hK.out
      simp only [Act.put, List.setIfInBounds_toArray, List.set_cons_zero, List.set_cons_succ]
      refine Z.ready (rs := [6]) (by kernel_rfl) (by simp) (Z.same (i := 6) (w' := W3) rfl (by rfl) (fun K hK => ?_) (fun h => absurd rfl h) ?_ Z.All.nil)
      · go_simp
        rw [← hW3]
        exact hK.out
      refine Z.done (by kernel_rfl) ?_ _
      clear hW3 hr3 hr3' hb3 hb3' HC KEEP hO2 hR2 BR hHeld
      generalize w3.heap.size = g3 at *
      clear p0 p1 y0 y1
      have p0 := R3.cell 0
      have p1 := R3.cell 1
      simp only [List.getElem?_cons_zero, List.getElem?_cons_succ] at p0 p1
      have y0 := R3.frozen 0
      have y1 := R3.frozen 1
      have u0 := O3.cell 0
      have u1 := O3.cell 1
      simp only [List.getElem?_cons_zero, List.getElem?_cons_succ] at u0 u1

      by_cases hz2 : rc2 = 0
      · subst hz2
        have hr0 : M.valueFault rl2 = 0 := (unhide SG).ok rfl
        obtain ⟨b4, c4', hsh, hc4, hl4, hlt4, hrw4⟩ := V3.rowedQ (Pth.val_ne hr0)
        simp only [Value.slice.injEq] at hsh
        obtain ⟨rfl, rfl, rfl⟩ := hsh
        have HC := hide (fun W (hW : Below W3.heap.size W3 W) => (unhide HSET) rl2 b4 c3 W (C3.trans (hW.mono C3.size)) hr0 (hrw4.below hW hlt4) (Nat.lt_of_lt_of_le hlt4 hW.size) hc4)
        have EE := hide ((unhide EOK) rl2 rfl)
        have hR3 := hide R3
        have SZ3 : w.heap.size + 1 ≤ W3.heap.size := R3.lt
        have KEEP := hide (fun W (hW : Below W3.heap.size W3 W) => (hW.cell O3.lt (p := ⟨g3, 1, none⟩)).trans u1)
        have BR := Below.refl W3.heap.size W3
        clear V3 hrw4 SG EIN EOK HSET O3 R3
        generalize Pth.setS v [c] rl2 = R4 at *
        obtain ⟨rc4, rl4⟩ := R4
        go_upto_region 14 with fail
        clear u0 u1 p0 p1 y0 y1
        refine Z.region 6 (fun w' => Below W3.heap.size W3 w') (by kernel_rfl) BR.drew (fun hHeld => ?_)
        refine Z.take (i := 0) (d := 45) (v := .slice (some ⟨b, off, none⟩) v.length cap) rfl rfl (by kernel_rfl) (by kernel_rfl) (by kernel_rfl) (by kernel_rfl) (fun _ _ _ h => h) (Or.inl ⟨by rfl, ?_⟩) hHeld ?_
        · intro w' hSw; go_simp
        simp only [Act.put, List.setIfInBounds_toArray, List.set_cons_zero, List.set_cons_succ]
        refine Z.take (i := 1) (d := 46) (v := .slice (some ⟨b', o, none⟩) (cs.length + 1 + 1) cap') rfl rfl (by kernel_rfl) (by kernel_rfl) (by kernel_rfl) (by kernel_rfl) (fun _ _ _ h => h) (Or.inl ⟨by rfl, ?_⟩) hHeld ?_
        · intro w' hSw; go_simp
        simp only [Act.put, List.setIfInBounds_toArray, List.set_cons_zero, List.set_cons_succ]
        refine Z.take (i := 2) (d := 47) (v := .slice (some ⟨b', o, none⟩) 1 cap') rfl rfl (by kernel_rfl) (by kernel_rfl) (by kernel_rfl) (by kernel_rfl) (fun _ _ _ h => h) (Or.inl ⟨by rfl, ?_⟩) hHeld ?_
        · intro w' hSw; go_simp; try omega
        simp only [Act.put, List.setIfInBounds_toArray, List.set_cons_zero, List.set_cons_succ]
        refine Z.take (i := 3) (d := 48) (v := .pointer (some ⟨g3, 1, none⟩)) rfl rfl (by kernel_rfl) (by kernel_rfl) (by kernel_rfl) (by kernel_rfl) (fun _ _ _ h => h) (Or.inl ⟨by rfl, ?_⟩) hHeld ?_
        · intro w' hSw; go_simp
        simp only [Act.put, List.setIfInBounds_toArray, List.set_cons_zero, List.set_cons_succ]
        refine Z.take (i := 4) (d := 49) (v := .slice (some ⟨b4, 0, none⟩) rl2.length c3) rfl rfl (by kernel_rfl) (by kernel_rfl) (by kernel_rfl) (by kernel_rfl) (fun _ _ _ h => h) (Or.inl ⟨by rfl, ?_⟩) hHeld ?_
        · intro w' hSw; have g1 := (unhide KEEP) _ hSw; go_simp
        simp only [Act.put, List.setIfInBounds_toArray, List.set_cons_zero, List.set_cons_succ]
        refine Z.only (i := 5) (d := 50) rfl rfl (by kernel_rfl) (by rfl) (fun K hK => ?_)
        go_simp
        refine ((unhide HC) _ BR.drew).mono ?_
        rintro e4 w4 ⟨s4, rfl, hr4, hb4⟩
        have hb4' : Below W3.heap.size W3 w4 := BR.drew.trans (hb4.mono (Nat.le_refl _))
        have hr4' : Res w4 W3.heap.size s4 rl4 := hr4
        obtain ⟨a4, n4, c4, rfl⟩ := hr4'.shape
        go_simp
        refine hK.out (.agg #[.int .i64 rc4, .slice a4 n4 c4]) _ hb4' ?_
        clear hK K
        simp only [Act.put, List.setIfInBounds_toArray, List.set_cons_zero, List.set_cons_succ]
        have R4 := (unhide hR3).below hb4' (unhide hR3).lt
        have F := hide (Pth.ret (hr4'.mono SZ3) (C3.trans (hb4'.mono C3.size)) (.int .i64 rc4) (.slice a4 n4 c4))
        have p0 := R4.cell 0
        have p1 := R4.cell 1
        simp only [List.getElem?_cons_zero, List.getElem?_cons_succ] at p0 p1
        have y0 := R4.frozen 0
        have y1 := R4.frozen 1

        refine Z.last_at (w' := (w4.setCell ⟨w.heap.size, 0, none⟩ (.int .i64 rc4)).setCell ⟨w.heap.size, 1, none⟩ (.slice a4 n4 c4)) rfl (by kernel_rfl) (by rfl) (fun K hK => ?_) ?_
        · go_simp
          exact hK.out
        refine Z.done (by kernel_rfl) ?_ _
        have R5 := (R4.set 0 (.int .i64 rc4)).set 1 (.slice a4 n4 c4)
        simp only [List.set_cons_zero, List.set_cons_succ] at R5
        clear p0 p1 y0 y1 R4 hr4 hr4' hb4 hb4' HC KEEP BR hHeld
        generalize (w4.setCell ⟨w.heap.size, 0, none⟩ (.int .i64 rc4)).setCell ⟨w.heap.size, 1, none⟩ (.slice a4 n4 c4) = W5 at *
        have p0 := R5.cell 0
        have p1 := R5.cell 1
        simp only [List.getElem?_cons_zero, List.getElem?_cons_succ] at p0 p1

        go_wp2_with fail
        refine bodyPost_ret (v := .agg #[.int .i64 rc4, .slice a4 n4 c4]) (by simp [results, Tryz.results70, go_sem, p0, p1]) rfl (ans_of (unhide EE) (unhide F).1 (unhide F).2)
      · have EE := hide ((unhide EIN) _ rfl hz2)
        have F := hide (Pth.ret V3 C3)
        have hz' : (rc2 == 0) = false := by simp [hz2]
        clear V3 SG EIN EOK HSET O3 R3 hz2
        go_wp2_with fail
        refine bodyPost_ret (v := .agg #[.int .i64 rc2, .slice a3 n3 c3]) (by simp [results, Tryz.results70, go_sem, p0, p1]) rfl (ans_of (unhide EE) ((unhide F) _ _).1 ((unhide F) _ _).2)
    · go_simp
      exact hK.out
    · simp only [Act.put, List.setIfInBounds_toArray, List.set_cons_zero, List.set_cons_succ]
      obtain ⟨Wz, hWz⟩ : ∃ Wz, Wz = (W2.drew).alloc (.cells #[.int .i64 0, .slice none 0 0] 49) := ⟨_, rfl⟩
      have BZ : Below W2.heap.size W2 Wz := by rw [hWz]; exact BR.drew.alloc (Nat.le_refl _) _
      have OZ : Own Wz W2.heap.size 49 [.int .i64 0, .slice none 0 0] := by rw [hWz]; exact ⟨_, heap_alloc_new _ _, rfl⟩
      rw [← hWz]
      clear hWz
      refine Z.ready (rs := [4]) (by kernel_rfl) (by simp) (Z.call_cons (i := 4) rfl (by rfl) (fun K hK => ?_) Z.All.nil)
      go_simp
      refine ((unhide HC) _ BZ).mono ?_
      rintro e3 w3 ⟨s3, rfl, hr3, hb3⟩
      have hb3' : Below W2.heap.size W2 w3 := BZ.trans (hb3.mono BZ.size)
      obtain ⟨a3, n3, c3, rfl⟩ := hr3.shape
      go_simp
      refine hK.out _ _ (fun _ => hb3') ?_
      clear hK K
      try simp only [Act.put, List.setIfInBounds_toArray, List.set_cons_zero, List.set_cons_succ]
      have OZ3 := OZ.below hb3 OZ.lt
      generalize hg3 : W2.heap.size = g3 at *
      have z0 := OZ3.cell 0
      have z1 := OZ3.cell 1
      have s0 := OZ3.frozen 0
      have s1 := OZ3.frozen 1
      simp only [List.getElem?_cons_zero, List.getElem?_cons_succ] at z0 z1
      obtain ⟨W3, hW3⟩ : ∃ W3, W3 = (w3.setCell ⟨g3, 0, none⟩ (.int .i64 rc2)).setCell ⟨g3, 1, none⟩ (.slice a3 n3 c3) := ⟨_, rfl⟩
      have O3 : Own W3 g3 49 [.int .i64 rc2, .slice a3 n3 c3] := by rw [hW3]; simpa using (OZ3.set 0 (.int .i64 rc2)).set 1 (.slice a3 n3 c3)
      have R3 : Own W3 w.heap.size 49 [.int .i64 0, .slice none 0 0] := by
        have hl := (unhide hR2).lt
        rw [hg3] at hl
        rw [hW3]; exact (((unhide hR2).below hb3' hl).setOther _ _ (by show w.heap.size ≠ g3; omega)).setOther _ _ (by show w.heap.size ≠ g3; omega)
      have hzl := OZ.lt
      have V3 : Res W3 (w.heap.size + 1) (.slice a3 n3 c3) rl2 := by
        have hne : ∀ b, (Value.slice a3 n3 c3).ownBlock = some b → b ≠ g3 := fun b hq => by have := hr3.base b hq; omega
        rw [hW3]; exact ((hr3.mono (by omega)).setOther _ _ hne).setOther _ _ hne
      have C3 : Below w.heap.size w W3 := by
        have hcs := C2.size
        rw [hg3] at hcs
        rw [hW3]; exact ((C2.trans (hb3'.mono hcs)).setCell (by show w.heap.size ≤ g3; omega) _).setCell (by show w.heap.size ≤ g3; omega) _
      refine Z.ready (rs := [6]) (by kernel_rfl) (by simp) (Z.same (i := 6) (w' := W3) rfl (by rfl) (fun K hK => ?_) (fun h => absurd rfl h) ?_ Z.All.nil)
      · go_simp
        rw [← hW3]
        exact hK.out
      refine Z.done (by kernel_rfl) ?_ _
      clear hW3 hr3 hb3 hb3' HC KEEP hO2 hR2 BR hHeld OZ OZ3 z0 z1 s0 s1 BZ hzl
      clear hg3
      clear p0 p1 y0 y1
      have p0 := R3.cell 0
      have p1 := R3.cell 1
      simp only [List.getElem?_cons_zero, List.getElem?_cons_succ] at p0 p1
      have y0 := R3.frozen 0
      have y1 := R3.frozen 1
      have u0 := O3.cell 0
      have u1 := O3.cell 1
      simp only [List.getElem?_cons_zero, List.getElem?_cons_succ] at u0 u1

      by_cases hz2 : rc2 = 0
      · subst hz2
        have hr0 : M.valueFault rl2 = 0 := (unhide SG).ok rfl
        obtain ⟨b4, c4', hsh, hc4, hl4, hlt4, hrw4⟩ := V3.rowedQ (Pth.val_ne hr0)
        simp only [Value.slice.injEq] at hsh
        obtain ⟨rfl, rfl, rfl⟩ := hsh
        have HC := hide (fun W (hW : Below W3.heap.size W3 W) => (unhide HSET) rl2 b4 c3 W (C3.trans (hW.mono C3.size)) hr0 (hrw4.below hW hlt4) (Nat.lt_of_lt_of_le hlt4 hW.size) hc4)
        have EE := hide ((unhide EOK) rl2 rfl)
        have hR3 := hide R3
        have SZ3 : w.heap.size + 1 ≤ W3.heap.size := R3.lt
        have KEEP := hide (fun W (hW : Below W3.heap.size W3 W) => (hW.cell O3.lt (p := ⟨g3, 1, none⟩)).trans u1)
        have BR := Below.refl W3.heap.size W3
        clear V3 hrw4 SG EIN EOK HSET O3 R3
        generalize Pth.setS v [c] rl2 = R4 at *
        obtain ⟨rc4, rl4⟩ := R4
        go_upto_region 14 with fail
        clear u0 u1 p0 p1 y0 y1
        refine Z.region 6 (fun w' => Below W3.heap.size W3 w') (by kernel_rfl) BR.drew (fun hHeld => ?_)
        refine Z.take (i := 0) (d := 45) (v := .slice (some ⟨b, off, none⟩) v.length cap) rfl rfl (by kernel_rfl) (by kernel_rfl) (by kernel_rfl) (by kernel_rfl) (fun _ _ _ h => h) (Or.inl ⟨by rfl, ?_⟩) hHeld ?_
        · intro w' hSw; go_simp
        simp only [Act.put, List.setIfInBounds_toArray, List.set_cons_zero, List.set_cons_succ]
        refine Z.take (i := 1) (d := 46) (v := .slice (some ⟨b', o, none⟩) (cs.length + 1 + 1) cap') rfl rfl (by kernel_rfl) (by kernel_rfl) (by kernel_rfl) (by kernel_rfl) (fun _ _ _ h => h) (Or.inl ⟨by rfl, ?_⟩) hHeld ?_
        · intro w' hSw; go_simp
        simp only [Act.put, List.setIfInBounds_toArray, List.set_cons_zero, List.set_cons_succ]
        refine Z.take (i := 2) (d := 47) (v := .slice (some ⟨b', o, none⟩) 1 cap') rfl rfl (by kernel_rfl) (by kernel_rfl) (by kernel_rfl) (by kernel_rfl) (fun _ _ _ h => h) (Or.inl ⟨by rfl, ?_⟩) hHeld ?_
        · intro w' hSw; go_simp; try omega
        simp only [Act.put, List.setIfInBounds_toArray, List.set_cons_zero, List.set_cons_succ]
        refine Z.take (i := 3) (d := 48) (v := .pointer (some ⟨g3, 1, none⟩)) rfl rfl (by kernel_rfl) (by kernel_rfl) (by kernel_rfl) (by kernel_rfl) (fun _ _ _ h => h) (Or.inl ⟨by rfl, ?_⟩) hHeld ?_
        · intro w' hSw; go_simp
        simp only [Act.put, List.setIfInBounds_toArray, List.set_cons_zero, List.set_cons_succ]
        refine Z.take (i := 4) (d := 49) (v := .slice (some ⟨b4, 0, none⟩) rl2.length c3) rfl rfl (by kernel_rfl) (by kernel_rfl) (by kernel_rfl) (by kernel_rfl) (fun _ _ _ h => h) (Or.inl ⟨by rfl, ?_⟩) hHeld ?_
        · intro w' hSw; have g1 := (unhide KEEP) _ hSw; go_simp
        simp only [Act.put, List.setIfInBounds_toArray, List.set_cons_zero, List.set_cons_succ]
        refine Z.only (i := 5) (d := 50) rfl rfl (by kernel_rfl) (by rfl) (fun K hK => ?_)
        go_simp
        refine ((unhide HC) _ BR.drew).mono ?_
        rintro e4 w4 ⟨s4, rfl, hr4, hb4⟩
        have hb4' : Below W3.heap.size W3 w4 := BR.drew.trans (hb4.mono (Nat.le_refl _))
        have hr4' : Res w4 W3.heap.size s4 rl4 := hr4
        obtain ⟨a4, n4, c4, rfl⟩ := hr4'.shape
        go_simp
        refine hK.out (.agg #[.int .i64 rc4, .slice a4 n4 c4]) _ hb4' ?_
        clear hK K
        simp only [Act.put, List.setIfInBounds_toArray, List.set_cons_zero, List.set_cons_succ]
        have R4 := (unhide hR3).below hb4' (unhide hR3).lt
        have F := hide (Pth.ret (hr4'.mono SZ3) (C3.trans (hb4'.mono C3.size)) (.int .i64 rc4) (.slice a4 n4 c4))
        have p0 := R4.cell 0
        have p1 := R4.cell 1
        simp only [List.getElem?_cons_zero, List.getElem?_cons_succ] at p0 p1
        have y0 := R4.frozen 0
        have y1 := R4.frozen 1

        refine Z.last_at (w' := (w4.setCell ⟨w.heap.size, 0, none⟩ (.int .i64 rc4)).setCell ⟨w.heap.size, 1, none⟩ (.slice a4 n4 c4)) rfl (by kernel_rfl) (by rfl) (fun K hK => ?_) ?_
        · go_simp
          exact hK.out
        refine Z.done (by kernel_rfl) ?_ _
        have R5 := (R4.set 0 (.int .i64 rc4)).set 1 (.slice a4 n4 c4)
        simp only [List.set_cons_zero, List.set_cons_succ] at R5
        clear p0 p1 y0 y1 R4 hr4 hr4' hb4 hb4' HC KEEP BR hHeld
        generalize (w4.setCell ⟨w.heap.size, 0, none⟩ (.int .i64 rc4)).setCell ⟨w.heap.size, 1, none⟩ (.slice a4 n4 c4) = W5 at *
        have p0 := R5.cell 0
        have p1 := R5.cell 1
        simp only [List.getElem?_cons_zero, List.getElem?_cons_succ] at p0 p1

        go_wp2_with fail
        refine bodyPost_ret (v := .agg #[.int .i64 rc4, .slice a4 n4 c4]) (by simp [results, Tryz.results70, go_sem, p0, p1]) rfl (ans_of (unhide EE) (unhide F).1 (unhide F).2)
      · have EE := hide ((unhide EIN) _ rfl hz2)
        have F := hide (Pth.ret V3 C3)
        have hz' : (rc2 == 0) = false := by simp [hz2]
        clear V3 SG EIN EOK HSET O3 R3 hz2
        go_wp2_with fail
        refine bodyPost_ret (v := .agg #[.int .i64 rc2, .slice a3 n3 c3]) (by simp [results, Tryz.results70, go_sem, p0, p1]) rfl (ans_of (unhide EE) ((unhide F) _ _).1 ((unhide F) _ _).2)
  · have E := hide (Pth.dropS_at (d := d) (cs := cs) (unhide HRR) hz)
    have F := hide (Pth.ret V2 C2)
    have hz' : (rc == 0) = false := by simp [hz]
    clear hz HIH HSET HRR SGD HGD V2 O2 R2 HCL
    go_wp2_with fail
    refine bodyPost_ret (v := .agg #[.int .i64 rc, .slice a2 n2 c2]) (by simp [results, Tryz.results70, go_sem, p0, p1]) rfl (ans_of (unhide E) ((unhide F) _ _).1 ((unhide F) _ _).2)

theorem dropSteps_any (cs : List M.Cl) (hs : ∀ c ∈ cs, Pth.Stp c) : Pth.DrpI cs := by
  induction cs with
  | nil => exact dropSteps_nil
  | cons c cs ih =>
    cases cs with
    | nil => exact dropSteps_one c (hs c (by simp))
    | cons d cs => exact dropSteps_more c d cs hs (hide (ih (fun x hx => hs x (by simp [hx]))))
end Go.Proofs.YtoaibccmlmaknaaGreat

namespace Go.Proofs.YtoaibccmlmaknaaGreat
open Go.RowKit
set_option linter.unusedVariables false
set_option linter.unusedSimpArgs false

/-- What is left of the first k elements. -/
def Pth.stay (ps : List (List M.Cl)) (q : Int) (k : Nat) : List (List M.Cl) := Pth.without (ps.take k) q
theorem Pth.take_snoc {ps : List (List M.Cl)} {k : Nat} (hk : k < ps.length) : ps.take (k + 1) = ps.take k ++ [ps.getD k []] := by
  rw [List.take_add_one, List.getD_eq_getElem?_getD, List.getElem?_eq_getElem hk]
  rfl
theorem Pth.stay_at {ps : List (List M.Cl)} {k : Nat} (hk : k < ps.length) : Pth.stay ps (k : Int) (k + 1) = Pth.stay ps (k : Int) k := by
  have hl : (ps.take k).length = k := by rw [List.length_take]; omega
  unfold Pth.stay
  rw [Pth.without_at (by rw [List.length_take]; omega), Pth.without_no (by rw [hl]; omega), Pth.take_snoc hk, List.eraseIdx_append_of_length_le (by omega), hl, Nat.sub_self]
  simp
theorem Pth.stay_no {ps : List (List M.Cl)} {k : Nat} {q : Int} (hk : k < ps.length) (h : (k : Int) ≠ q) : Pth.stay ps q (k + 1) = Pth.stay ps q k ++ [ps.getD k []] := by
  have hl : (ps.take k).length = k := by rw [List.length_take]; omega
  unfold Pth.stay
  by_cases hq : 0 ≤ q ∧ q < (k : Int)
  · obtain ⟨j, rfl⟩ : ∃ j : Nat, q = (j : Int) := ⟨q.toNat, by omega⟩
    rw [Pth.without_at (by rw [List.length_take]; omega), Pth.without_at (by omega), Pth.take_snoc hk, List.eraseIdx_append_of_lt_length (by omega)]
  · rw [Pth.without_no (by rw [List.length_take]; omega), Pth.without_no (by rw [hl]; exact hq), Pth.take_snoc hk]
theorem Pth.stay_len (ps : List (List M.Cl)) (q : Int) (k : Nat) : (Pth.stay ps q k).length ≤ k := by
  unfold Pth.stay Pth.without
  split
  · rw [List.length_eraseIdx, List.length_take]; split <;> omega
  · rw [List.length_take]; omega

set_option maxRecDepth 100000 in
set_option maxHeartbeats 2000000 in
theorem l13DropIndex_any (v : List M.Cl) (n : Int) (b off cap : Nat) (w : World) (hv : M.valueFault v = 0) (n0 : -1000000000000000 ≤ n) (n1 : n ≤ 1000000000000000) (hrow : Row w b off v) (hb : b < w.heap.size) (hcap : v.length ≤ cap) :
    Calls Tryz.prog 43 #[.slice (some ⟨b, off, none⟩) v.length cap, .int .i64 n] w (Ans w (Pth.outI v n)) := by
  have hlen := Pth.lens hv
  have hlenI : (0 : Int) < (v.length : Int) := by omega
  obtain ⟨W0, hW0⟩ : ∃ W0, W0 = w.alloc (.cells #[.int .i64 0, .slice none 0 0] 49) := ⟨_, rfl⟩
  have B0 : Below w.heap.size w W0 := by rw [hW0]; exact (Below.refl _ _).alloc (Nat.le_refl _) _
  have R0 : Own W0 w.heap.size 49 [.int .i64 0, .slice none 0 0] := by rw [hW0]; exact ⟨_, heap_alloc_new _ _, rfl⟩
  obtain ⟨f0, _, _, _, _⟩ := (hrow.below B0 hb) 0 (by omega)
  simp only [Nat.zero_mul, Nat.add_zero] at f0
  have SZ : w.heap.size + 1 ≤ W0.heap.size := R0.lt
  have p0 := R0.cell 0
  have p1 := R0.cell 1
  have y0 := R0.frozen 0
  have y1 := R0.frozen 1
  simp only [List.getElem?_cons_zero, List.getElem?_cons_succ] at p0 p1
  by_cases k0 : (v.getD 0 M.zero).kind = 0
  · have E := hide (show Pth.outI v n = (0, [M.zero]) from if_pos k0)
    rw [k0] at f0
    clear k0 hv hrow
    go_enter Tryz.func43, Tryz.ntmps43
    go_upto_region 1 with fail
    rw [← hW0]
    clear hW0
    go_wp2_with fail
    refine (l3Null_any _).mono ?_
    rintro e2 w2 ⟨s2, rfl, hr2, hb2⟩
    have R2 := R0.below hb2 R0.lt
    have F := hide (Pth.ret (hr2.mono SZ) (B0.trans (hb2.mono B0.size)))
    obtain ⟨a2, n2, c2, rfl⟩ := hr2.shape
    clear p0 p1 y0 y1 hr2 hb2
    have p0 := R2.cell 0
    have p1 := R2.cell 1
    have y0 := R2.frozen 0
    have y1 := R2.frozen 1
    simp only [List.getElem?_cons_zero, List.getElem?_cons_succ] at p0 p1
    go_wp2_with fail
    refine bodyPost_ret (v := .agg #[.int .i64 0, .slice a2 n2 c2]) (by simp [results, Tryz.results43, go_sem, p0, p1]) rfl (ans_of (unhide E) ((unhide F) _ _).1 ((unhide F) _ _).2)
  by_cases k5 : (v.getD 0 M.zero).kind = 5
  · have E := hide (show Pth.outI v n = (0, arrV (Pth.without (subs v 0) (Pth.idx n (subs v 0).length))) by unfold Pth.outI; rw [if_neg k0, if_pos k5])
    have HP := hide (l1Parts_any v b off cap W0 hv (hrow.below B0 hb) (Nat.lt_of_lt_of_le hb B0.size) hcap (Pth.oks hv))
    have hsa := subs_all hv (Pth.oks hv)
    have HLV := hide (Pth.left_val hv k5 (Pth.idx n (subs v 0).length))
    have HNE := hide hsa.2.2.2
    have hs200 := hsa.1
    have HIX := hide (fun W => l13Index_any n (subs v 0).length W n0 n1 hsa.1)
    have hqb : -1000000000000000 ≤ Pth.idx n (subs v 0).length ∧ Pth.idx n (subs v 0).length ≤ 1000000000000200 := by unfold Pth.idx; split <;> omega
    obtain ⟨i0, hi, hz0, hz1, hz2⟩ := info_parts Tryz.info26
    rw [k5] at f0
    clear k0 k5 hv hrow hsa
    generalize subs v 0 = ps at *
    generalize Pth.idx n ps.length = q at *
    go_enter Tryz.func43, Tryz.ntmps43
    go_upto_region 1 with fail
    rw [← hW0]
    clear hW0
    go_wp2_with fail
    refine (unhide HP).mono ?_
    rintro e1 w1 ⟨s1, rfl, hs1, hb1⟩
    have R1 := R0.below hb1 R0.lt
    have B1 : Below w.heap.size w w1 := B0.trans (hb1.mono B0.size)
    have hsz1 := hb1.size
    obtain ⟨pa, pc, rfl, hpc, _⟩ := hs1.lv (unhide HNE)
    clear p0 p1 y0 y1 hb1 R0 HP f0 B0
    generalize W0.heap.size = BB at *
    go_wp2_with fail
    refine ((unhide HIX) _).mono ?_
    rintro e2 w2 ⟨rfl, hw2⟩
    rw [hw2]
    clear hw2 w2 HIX
    obtain ⟨w3, hw3⟩ : ∃ w3, w3 = w1.alloc (.cells #[] 26) := ⟨_, rfl⟩
    have hS0 : SS w3 BB (.slice (some ⟨w1.heap.size, 0, none⟩) 0 0) [] := by rw [hw3]; exact SS.empty w1 BB w1.heap.size rfl hsz1
    have hs3 : SS w3 BB (.slice pa ps.length pc) ps := by rw [hw3]; exact hs1.alloc _
    obtain ⟨xs1, hxs1⟩ := hs1.ownsRow
    have hap0 : Apart (.slice (some ⟨w1.heap.size, 0, none⟩) 0 0) (.slice pa ps.length pc) := fun g hg e => by
      have := (row_blt hxs1 g hg).2
      simp only [Value.ownBlock, Option.some.injEq] at e
      omega
    have B3 : Below w1.heap.size w1 w3 := by rw [hw3]; exact (Below.refl _ _).alloc (Nat.le_refl _) _
    have C3 : Below BB w1 w3 := B3.mono hsz1
    have hB1lt := R1.lt
    have HR1 := hide R1
    have hAp := hide hap0
    have hS0h := hide hS0
    have hs3h := hide hs3
    clear hs1 hxs1 hS0 hs3 hap0 R1 B3
    go_upto_region 8 with fail
    rw [← hw3]
    clear hw3
    go_wp2_with fail
    go_loopg [6, 7] ps.length (fun gh s6 s7 wr => ∃ k : Nat, Hid (gh = ps.length - k) ∧ s7 = .int .i64 k ∧ k ≤ ps.length ∧ Hid (SS wr BB s6 (Pth.stay ps q k)) ∧ Hid (SS wr BB (.slice pa ps.length pc) ps) ∧ Hid (Apart s6 (.slice pa ps.length pc)) ∧ Below BB w1 wr)
    case atStart => exact ⟨0, rfl, rfl, by omega, by rw [show Pth.stay ps q 0 = [] from List.length_eq_zero_iff.1 (by have := Pth.stay_len ps q 0; omega)]; exact unhide hS0h, unhide hs3h, unhide hAp, C3⟩
    case round =>
      clear hS0h hs3h hAp C3
      obtain ⟨k, hg, rfl, hk', hS, hsa, hp2, hbel⟩ := hrel
      by_cases hlt : k < ps.length
      · have hltI : (k : Int) < (ps.length : Int) := by omega
        by_cases hq : (k : Int) = q
        · have hst := hide (show Pth.stay ps q (k + 1) = Pth.stay ps q k by rw [← hq]; exact Pth.stay_at hlt)
          have hnq : ((k : Int) != q) = false := by simp [hq]
          have hnq2 : ((k : Int) == q) = true := by simp [hq]
          clear hq
          go_wp2_with fail
          go_roundg (ps.length - (k + 1))
          case rel => exact ⟨k + 1, rfl, by go_num, by omega, by rw [unhide hst]; exact hS.out, hsa.out, hp2.out, hbel⟩
          case measure => have := hg.out; omega
        · have hst := hide (Pth.stay_no hlt hq)
          have hnq : ((k : Int) != q) = true := by simp [hq]
          have hnq2 : ((k : Int) == q) = false := by simp [hq]
          have hpl := Pth.stay_len ps q k
          have hnl : (Pth.stay ps q k).length ≤ 200 := by omega
          have hk63 : (Pth.stay ps q k).length + 1 ≤ maxLen := by unfold maxLen; omega
          have hby7 : ((Pth.stay ps q k).length + 1) * 24 ≤ 140737488355328 := by omega
          obtain ⟨g2, cap2, sv, heq2, hcap2, f2, hr2⟩ := (hsa.out).at (i := k) hlt
          cases heq2
          obtain ⟨sa, sn, sc, hsv⟩ := hr2.shape
          subst hsv
          obtain ⟨ss, hsl7, hown7, hres7⟩ := hS.out
          have hown7' := hide (fun o => hown7.alloc o)
          have hbse7 := hide (ownsRow_base hown7)
          have hone7 := hide (one_val wr (.slice sa sn sc) 26)
          have honep7 := hide (one_plain' sa sn sc)
          have hsn7 := hide (fun w' o v' hg ho => SS.snoc (w3 := w') (o := o) (v' := v') rfl hsl7 hown7 hres7 hr2 hg ho)
          have hsz6 := hbel.size
          have K3 := hide (fun (w' : World) o (hg : (wr.alloc o).grownBy w' u6.ownBlock) => ((hsa.out).alloc o).keptB (w' := w') (hown7.alloc o) (hp2.out).or hg)
          obtain ⟨xs2, hxs2⟩ := (hsa.out).ownsRow
          have K4 := hide (fun (v' : Value) (h : v'.ownBlock = u6.ownBlock ∨ v'.ownBlock = some (wr.heap.size + 1)) => (hp2.out).next (fun g hg => Nat.lt_succ_of_lt (row_blt hxs2 g hg).2) h)
          have hszB : BB ≤ wr.heap.size := by omega
          clear hown7 hres7 hsl7 hr2 hxs2 hq hS hsa hp2
          go_wp2_with (at_builtin; refine wpList_append_own_at _ rfl (.tmp 37) (.tmp 42) 53 rfl BB 26 i0 (.slice none 0 0) 1 24 Tryz.underlying53 hi hz0 hz1 hz2 rfl (by decide) _ (Pth.stay ps q k).length ss rfl ((unhide hown7') _) ⟨wr.heap.size, 0, none⟩ 1 1 [.slice sa sn sc] rfl rfl (unhide hone7) (unhide honep7) hk63 hby7 (by simp; omega) ?_)
          intro v7 w7 ho7 hg7 _ hat7
          have B7 : Below BB w1 w7 := (hbel.alloc hszB _).grown hg7 (by simp; omega) (unhide hbse7)
          have R3 := hide ((unhide K3) _ _ hg7)
          have R4 := hide ((unhide K4) v7 (by simpa using hat7))
          have R5 := hide (show SS w7 BB v7 (Pth.stay ps q (k + 1)) by rw [unhide hst]; exact (unhide hsn7) _ _ _ hg7 ho7)
          clear hg7 ho7 hat7 f2 K3 K4 hsn7 hown7' hone7 honep7
          go_wp2_with fail
          go_roundg (ps.length - (k + 1))
          case rel => exact ⟨k + 1, rfl, by go_num, by omega, unhide R5, unhide R3, unhide R4, B7⟩
          case measure => have := hg.out; omega
      · have hke : k = ps.length := by omega
        have hS1 := hS.out
        rw [hke, show Pth.stay ps q ps.length = Pth.without ps q by unfold Pth.stay; rw [List.take_length]] at hS1
        obtain ⟨hl1, hl2, hl3⟩ := unhide HLV
        obtain ⟨la, lc, hla, hlc, hlv⟩ := hS1.lv (valid_ne hl3)
        subst hla
        have HRr := hide ((unhide HR1).below hbel (by omega))
        have BR : Below w.heap.size w wr := B1.trans (hbel.mono (by omega))
        have HLA := hide (l1ArrayV_any la lc (Pth.without ps q) wr hlv hlc (by omega) hl3)
        have hwr : w.heap.size + 1 ≤ wr.heap.size := (unhide HRr).lt
        clear hS hsa hp2 hS1 hl1 hl3 hlv HLV hke
        generalize Pth.without ps q = L at *
        generalize arrV L = A at *
        go_wp2_with fail
        refine (unhide HLA).mono ?_
        rintro e4 w4 ⟨s4, rfl, hr4, hb4⟩
        have R4 := (unhide HRr).below hb4 (unhide HRr).lt
        have F := hide (Pth.ret (hr4.mono hwr) (BR.trans (hb4.mono BR.size)))
        obtain ⟨a4, n4, c4, rfl⟩ := hr4.shape
        clear hr4 hb4 HLA
        have p0 := R4.cell 0
        have p1 := R4.cell 1
        have y0 := R4.frozen 0
        have y1 := R4.frozen 1
        simp only [List.getElem?_cons_zero, List.getElem?_cons_succ] at p0 p1
        go_wp2_with fail
        refine bodyPost_ret (v := .agg #[.int .i64 0, .slice a4 n4 c4]) (by simp [results, Tryz.results43, go_sem, p0, p1]) rfl (ans_of (unhide E) ((unhide F) _ _).1 ((unhide F) _ _).2)
  · have E := hide (show Pth.outI v n = (6, []) by unfold Pth.outI; rw [if_neg k0, if_neg k5])
    generalize (v.getD 0 M.zero).kind = kd at *
    have e0 : (kd == 0) = false := by simp [k0]
    have e5 : (kd == 5) = false := by simp [k5]
    have n5 : (kd != 5) = true := by simp [k5]
    clear k0 k5 hv hrow
    go_enter Tryz.func43, Tryz.ntmps43
    go_upto_region 1 with fail
    rw [← hW0]
    clear hW0
    go_wp2_with fail
    refine (l3Bad_any _ _).mono ?_
    rintro e2 w2 ⟨s2, rfl, hr2, hb2⟩
    have R2 := R0.below hb2 R0.lt
    have F := hide (Pth.ret (hr2.mono SZ) (B0.trans (hb2.mono B0.size)))
    obtain ⟨a2, n2, c2, rfl⟩ := hr2.shape
    clear p0 p1 y0 y1 hr2 hb2
    have p0 := R2.cell 0
    have p1 := R2.cell 1
    have y0 := R2.frozen 0
    have y1 := R2.frozen 1
    simp only [List.getElem?_cons_zero, List.getElem?_cons_succ] at p0 p1
    go_wp2_with fail
    refine bodyPost_ret (v := .agg #[.int .i64 6, .slice a2 n2 c2]) (by simp [results, Tryz.results43, go_sem, p0, p1]) rfl (ans_of (unhide E) ((unhide F) _ _).1 ((unhide F) _ _).2)
end Go.Proofs.YtoaibccmlmaknaaGreat

namespace Go.Proofs.YtoaibccmlmaknaaGreat
open Go.RowKit
set_option linter.unusedVariables false
set_option linter.unusedSimpArgs false

/-- What l13Drop says of steps. -/
def Pth.DrpM (cs : List M.Cl) : Prop := ∀ (v : List M.Cl) (b off cap : Nat) (pa : Option Addr) (cap' : Nat) (w : World), M.valueFault v = 0 → Row w b off v → b < w.heap.size → v.length ≤ cap → Pth.PL w pa cs → cs.length ≤ cap' → cap' ≤ 9223372036854775807 →
  Calls Tryz.prog 23 #[.slice (some ⟨b, off, none⟩) v.length cap, .slice pa cs.length cap'] w (Ans w (Pth.dropS v cs))

set_option maxRecDepth 100000 in
set_option maxHeartbeats 1000000 in
theorem l13Drop_nil : Pth.DrpM [] := by
  intro v b off cap pa cap' w hv hrow hb hcap hpl hcap' hc'
  have HN := hide (fun y => l3Null_any (w.alloc y))
  have E := hide (show Pth.dropS v [] = (0, [M.zero]) from rfl)
  clear hv hrow hpl
  rw [List.length_nil]
  go_enter Tryz.func23, Tryz.ntmps23
  go_wp2_with fail
  refine ((unhide HN) _).mono ?_
  rintro e1 w1 ⟨s1, rfl, hr1, hb1⟩
  simp only [World.size_alloc] at hr1 hb1
  have R1 : Own w1 w.heap.size 49 [.int .i64 0, .slice none 0 0] := Own.below ⟨_, heap_alloc_new _ _, rfl⟩ hb1 (by omega)
  have F := hide (Pth.ret hr1 (((Below.refl _ _).alloc (Nat.le_refl _) _).trans (hb1.mono (by omega))))
  obtain ⟨a1, n1, c1, rfl⟩ := hr1.shape
  clear hr1 hb1 HN
  have p0 := R1.cell 0
  have p1 := R1.cell 1
  simp only [List.getElem?_cons_zero, List.getElem?_cons_succ] at p0 p1
  have y0 := R1.frozen 0
  have y1 := R1.frozen 1
  go_wp2_with fail
  refine bodyPost_ret (v := .agg #[.int .i64 0, .slice a1 n1 c1]) (by simp [results, Tryz.results23, go_sem, p0, p1]) rfl (ans_of (unhide E) ((unhide F) _ _).1 ((unhide F) _ _).2)

set_option maxRecDepth 100000 in
set_option maxHeartbeats 1000000 in
theorem l13Drop_one (c : M.Cl) (hst : Pth.Stp c) : Pth.DrpM [c] := by
  intro v b off cap pa cap' w hv hrow hb hcap hpl hcap' hc'
  have hlen := (Pth.lens hv).2
  have hts := textOk_size hst.tx
  rw [List.length_cons, List.length_nil, Nat.zero_add] at hcap' ⊢
  obtain ⟨pg, po, po', b1, o1, k1, rfl, hpg, hf, hk1, hb1, hr1, hpt, ho1, ho2⟩ := Pth.pl_tail hpl (by rw [List.length_nil]; omega)
  have h0 := hr1 0 (by simp)
  simp only [Nat.zero_mul, Nat.add_zero, List.getD_cons_zero] at h0
  obtain ⟨W0, hW0⟩ : ∃ W0, W0 = w.alloc (.cells #[.int .i64 0, .slice none 0 0] 49) := ⟨_, rfl⟩
  have B0 : Below w.heap.size w W0 := by rw [hW0]; exact (Below.refl _ _).alloc (Nat.le_refl _) _
  have R0 : Own W0 w.heap.size 49 [.int .i64 0, .slice none 0 0] := by rw [hW0]; exact ⟨_, heap_alloc_new _ _, rfl⟩
  have ff := (B0.cell hpg).trans hf
  obtain ⟨f0, f1, f2, f3, f4⟩ := (show W0.cell? ⟨b1, o1, none⟩ = some (.int .i64 c.kind) ∧ W0.cell? ⟨b1, o1 + 1, none⟩ = some (.int .i64 c.num) ∧ W0.cell? ⟨b1, o1 + 2, none⟩ = some (.string c.text) ∧ W0.cell? ⟨b1, o1 + 3, none⟩ = some (.string c.key) ∧ W0.cell? ⟨b1, o1 + 4, none⟩ = some (.int .i64 c.n) from
    ⟨(B0.cell hb1).trans h0.1, (B0.cell hb1).trans h0.2.1, (B0.cell hb1).trans h0.2.2.1, (B0.cell hb1).trans h0.2.2.2.1, (B0.cell hb1).trans h0.2.2.2.2⟩)
  obtain ⟨W1, hW1⟩ : ∃ W1, W1 = W0.alloc (.cells #[.int .i64 c.kind, .int .i64 c.num, .string c.text, .string c.key, .int .i64 c.n] 56) := ⟨_, rfl⟩
  have B1 : Below w.heap.size w W1 := by rw [hW1]; exact B0.alloc B0.size _
  have R1 : Own W1 w.heap.size 49 [.int .i64 0, .slice none 0 0] := by rw [hW1]; exact R0.alloc _
  have O1 : Own W1 W0.heap.size 56 [.int .i64 c.kind, .int .i64 c.num, .string c.text, .string c.key, .int .i64 c.n] := by rw [hW1]; exact ⟨_, heap_alloc_new _ _, rfl⟩
  have HDK := hide (specDropKey_any v b off cap c.text W1 (hrow.below B1 hb) (Nat.lt_of_lt_of_le hb B1.size) (by omega) hcap (Pth.oks hv) (by omega))
  rw [drop_ok hv hst.tx] at HDK
  have HDI := hide (l13DropIndex_any v c.num b off cap W1 hv hst.lo hst.hi (hrow.below B1 hb) (Nat.lt_of_lt_of_le hb B1.size) hcap)
  have E4 := hide (show c.kind = 4 → Pth.dropS v [c] = dropL v c.text from fun h => if_pos h)
  have E3 := hide (show c.kind ≠ 4 → Pth.dropS v [c] = Pth.outI v c.num from fun h => if_neg h)
  have hkd := hst.kd
  clear hst hv hrow hpl hpt h0 hr1 hf R0 ho1 ho2
  have q0 := O1.cell 0
  have q1 := O1.cell 1
  have q2 := O1.cell 2
  simp only [List.getElem?_cons_zero, List.getElem?_cons_succ] at q0 q1 q2
  have p0 := R1.cell 0
  have p1 := R1.cell 1
  simp only [List.getElem?_cons_zero, List.getElem?_cons_succ] at p0 p1
  have y0 := R1.frozen 0
  have y1 := R1.frozen 1
  have HR1 := hide R1
  have SZ : w.heap.size + 1 ≤ W1.heap.size := R1.lt
  clear O1 R1
  generalize hg0 : W0.heap.size = g0 at *
  rcases hkd with hk | hk
  · have E := hide ((unhide E4) (by omega))
    rw [hk] at q0 hW1 f0
    clear E3 E4 HDI hk
    generalize dropL v c.text = R at *
    obtain ⟨rc, rl⟩ := R
    go_enter Tryz.func23, Tryz.ntmps23
    go_upto_region 3 with fail
    rw [← hW0]
    clear hW0
    go_upto_region 4 with fail
    rw [← hW1]
    clear hW1 hg0 f0 f1 f2 f3 f4 ff B0
    go_wp2_with fail
    refine (unhide HDK).mono ?_
    rintro e2 w2 ⟨s2, rfl, hr2, hb2⟩
    have R2 := (unhide HR1).below hb2 (unhide HR1).lt
    have F := hide (Pth.ret (hr2.mono SZ) (B1.trans (hb2.mono B1.size)))
    obtain ⟨a2, n2, c2, rfl⟩ := hr2.shape
    clear p0 p1 y0 y1 q0 q1 q2 hr2 hb2
    have p0 := R2.cell 0
    have p1 := R2.cell 1
    simp only [List.getElem?_cons_zero, List.getElem?_cons_succ] at p0 p1
    have y0 := R2.frozen 0
    have y1 := R2.frozen 1
    go_wp2_with fail
    refine bodyPost_ret (v := .agg #[.int .i64 rc, .slice a2 n2 c2]) (by simp [results, Tryz.results23, go_sem, p0, p1]) rfl (ans_of (unhide E) ((unhide F) _ _).1 ((unhide F) _ _).2)
  · have E := hide ((unhide E3) (by omega))
    rw [hk] at q0 hW1 f0
    clear E3 E4 HDK hk
    generalize Pth.outI v c.num = R at *
    obtain ⟨rc, rl⟩ := R
    go_enter Tryz.func23, Tryz.ntmps23
    go_upto_region 3 with fail
    rw [← hW0]
    clear hW0
    go_upto_region 4 with fail
    rw [← hW1]
    clear hW1 hg0 f0 f1 f2 f3 f4 ff B0
    go_wp2_with fail
    refine (unhide HDI).mono ?_
    rintro e2 w2 ⟨s2, rfl, hr2, hb2⟩
    have R2 := (unhide HR1).below hb2 (unhide HR1).lt
    have F := hide (Pth.ret (hr2.mono SZ) (B1.trans (hb2.mono B1.size)))
    obtain ⟨a2, n2, c2, rfl⟩ := hr2.shape
    clear p0 p1 y0 y1 q0 q1 q2 hr2 hb2
    have p0 := R2.cell 0
    have p1 := R2.cell 1
    simp only [List.getElem?_cons_zero, List.getElem?_cons_succ] at p0 p1
    have y0 := R2.frozen 0
    have y1 := R2.frozen 1
    go_wp2_with fail
    refine bodyPost_ret (v := .agg #[.int .i64 rc, .slice a2 n2 c2]) (by simp [results, Tryz.results23, go_sem, p0, p1]) rfl (ans_of (unhide E) ((unhide F) _ _).1 ((unhide F) _ _).2)

set_option maxRecDepth 100000 in
set_option maxHeartbeats 2000000 in
theorem l13Drop_more (c d : M.Cl) (cs : List M.Cl) (hst : ∀ x ∈ c :: d :: cs, Pth.Stp x) (ih : Hid (Pth.DrpM (d :: cs))) : Pth.DrpM (c :: d :: cs) := by
  intro v b off cap pa cap' w hv hrow hb hcap hpl hcap' hc'
  have hlen := Pth.lens hv
  have hc1 := hst c (by simp)
  have hpl0 := hpl
  rw [List.length_cons, List.length_cons] at hcap' ⊢
  obtain ⟨pg, po, po', b1, o1, k1, rfl, hpg, hf, hk1, hb1, hr1, hpt, ho1, ho2⟩ := Pth.pl_tail hpl (by rw [List.length_cons]; exact hcap')
  have ho1 := hide (ho1 (by omega))
  have hpo : Pth.PL w (some ⟨pg, po, none⟩) [c] := .inr ⟨pg, po, rfl, hpg, fun i hi => by
    have hi0 : i = 0 := by simp at hi; exact hi
    subst hi0
    exact ⟨b1, o1, k1, hf, hk1, hb1, hr1⟩⟩
  have h0 := hr1 0 (by simp)
  simp only [Nat.zero_mul, Nat.add_zero, List.getD_cons_zero] at h0
  have HGA := hide (fun W (h : Below w.heap.size w W) => l3At_any v b off cap [c] b1 o1 k1 W hv hc1.val (hrow.below h hb) (Nat.lt_of_lt_of_le hb h.size) (by omega) hcap (Pth.oks hv) (hr1.below h hb1) (Nat.lt_of_lt_of_le hb1 h.size) (by simp) (by simp; omega) (Pth.oks hc1.val))
  simp only [List.getD_cons_zero, List.length_cons, List.length_nil, Nat.zero_add] at HGA
  have HIH := hide (fun u b2 c2 W (h : Below w.heap.size w W) hu r hb2 hc2 => ih.out u b2 0 c2 (some ⟨pg, po', none⟩) (cap' - 1) W hu r hb2 hc2 (hpt.below (B := 0) h) (by rw [List.length_cons]; omega) (by omega))
  simp only [List.length_cons] at HIH
  have HSET := hide (fun u b2 c2 W (h : Below w.heap.size w W) (hu : M.valueFault u = 0) r hb2 hc2 => l13Set_any [c] u hu (fun x hx => by simp at hx; subst hx; exact hc1) v b off cap (some ⟨pg, po, none⟩) cap' b2 0 c2 W hv (hrow.below h hb) (Nat.lt_of_lt_of_le hb h.size) hcap (hpo.below (B := 0) h) (by simp; omega) hc' r hb2 hc2)
  simp only [List.length_cons, List.length_nil, Nat.zero_add] at HSET
  have HCL := hide (fun W (h : Below w.heap.size w W) => hrow.below h hb)
  have HGD := hide (Pth.at_gd hv c)
  have SGD := hide (fun u (hu : M.valueFault u = 0) => Pth.dropS_gd hu (d :: cs))
  have L0 : (((cs.length + 1 + 1 : Nat) : Int) == 0) = false := by simp; omega
  have L1 : (((cs.length + 1 + 1 : Nat) : Int) == 1) = false := by simp; omega
  have L2 : (0 : Int) < ((cs.length + 1 + 1 : Nat) : Int) := by omega
  have L3 : Hid ((((cs.length : Int) + 1 + 1) == 0) = false) := hide (by simp; omega)
  have L4 : Hid ((((cs.length : Int) + 1 + 1) == 1) = false) := hide (by simp; omega)
  have hcp1 : 1 ≤ cap' := by omega
  have hcp2 : (1 : Int) ≤ (cap' : Int) := by omega
  obtain ⟨i0, hi, hz0, hz1, hz2⟩ := info_parts Tryz.info56
  obtain ⟨W0, hW0⟩ : ∃ W0, W0 = w.alloc (.cells #[.int .i64 0, .slice none 0 0] 49) := ⟨_, rfl⟩
  have B0 : Below w.heap.size w W0 := by rw [hW0]; exact (Below.refl _ _).alloc (Nat.le_refl _) _
  have R0 : Own W0 w.heap.size 49 [.int .i64 0, .slice none 0 0] := by rw [hW0]; exact ⟨_, heap_alloc_new _ _, rfl⟩
  have ff := (B0.cell hpg).trans hf
  obtain ⟨f0, f1, f2, f3, f4⟩ := (show W0.cell? ⟨b1, o1, none⟩ = some (.int .i64 c.kind) ∧ W0.cell? ⟨b1, o1 + 1, none⟩ = some (.int .i64 c.num) ∧ W0.cell? ⟨b1, o1 + 2, none⟩ = some (.string c.text) ∧ W0.cell? ⟨b1, o1 + 3, none⟩ = some (.string c.key) ∧ W0.cell? ⟨b1, o1 + 4, none⟩ = some (.int .i64 c.n) from
    ⟨(B0.cell hb1).trans h0.1, (B0.cell hb1).trans h0.2.1, (B0.cell hb1).trans h0.2.2.1, (B0.cell hb1).trans h0.2.2.2.1, (B0.cell hb1).trans h0.2.2.2.2⟩)
  obtain ⟨W1, hW1⟩ : ∃ W1, W1 = W0.alloc (.cells #[.int .i64 c.kind, .int .i64 c.num, .string c.text, .string c.key, .int .i64 c.n] 56) := ⟨_, rfl⟩
  have B1 : Below w.heap.size w W1 := by rw [hW1]; exact B0.alloc B0.size _
  have R1 : Own W1 w.heap.size 49 [.int .i64 0, .slice none 0 0] := by rw [hW1]; exact R0.alloc _
  have ff1 := (B1.cell hpg).trans hf
  have hR0 := hide R1
  have SZ : w.heap.size + 1 ≤ W1.heap.size := R1.lt
  clear hst ih hv hrow hpl hpl0 hpt hpo hr1 hf R0 R1 ho2 hc1 h0
  go_enter Tryz.func23, Tryz.ntmps23
  go_upto_region 3 with fail
  rw [← hW0]
  try rw [L3.out]
  clear hW0
  go_upto_region 4 with fail
  rw [← hW1]
  clear hW1 f0 f1 f2 f3 f4 ff B0
  generalize hR : atIn v c = R at *
  have HRR := hide hR
  clear hR
  obtain ⟨rc, rl⟩ := R
  go_wp2_with fail
  refine ((unhide HGA) _ B1).mono ?_
  rintro e2 w2 ⟨s2, rfl, hr2, hb2⟩
  obtain ⟨a2, n2, c2, rfl⟩ := hr2.shape
  obtain ⟨W2, hW2⟩ : ∃ W2, W2 = w2.alloc (.cells #[.int .i64 rc, .slice a2 n2 c2] 49) := ⟨_, rfl⟩
  have O2 : Own W2 w2.heap.size 49 [.int .i64 rc, .slice a2 n2 c2] := by rw [hW2]; exact ⟨_, heap_alloc_new _ _, rfl⟩
  have R2 : Own W2 w.heap.size 49 [.int .i64 0, .slice none 0 0] := by rw [hW2]; exact ((unhide hR0).below hb2 (unhide hR0).lt).alloc _
  have V2 : Res W2 (w.heap.size + 1) (.slice a2 n2 c2) rl := by rw [hW2]; exact (hr2.alloc _).mono SZ
  have C2 : Below w.heap.size w W2 := by rw [hW2]; exact (B1.trans (hb2.mono B1.size)).alloc (by have := B1.size; have := hb2.size; omega) _
  clear hr2 hb2 HGA hR0 B1 ff1
  generalize hg2 : w2.heap.size = g2 at *
  have p0 := R2.cell 0
  have p1 := R2.cell 1
  simp only [List.getElem?_cons_zero, List.getElem?_cons_succ] at p0 p1
  have y0 := R2.frozen 0
  have y1 := R2.frozen 1
  have u0 := O2.cell 0
  have u1 := O2.cell 1
  simp only [List.getElem?_cons_zero, List.getElem?_cons_succ] at u0 u1
  go_upto_region 9 with fail
  rw [← hW2]
  clear hW2 hg2
  by_cases hz : rc = 0
  · subst hz
    have hrl : M.valueFault rl = 0 := (unhide HGD).ok rfl
    obtain ⟨b3, c3', hsh, hc3, hl3, hlt3, hrw3⟩ := V2.rowedQ (Pth.val_ne hrl)
    simp only [Value.slice.injEq] at hsh
    obtain ⟨rfl, rfl, rfl⟩ := hsh
    have hrll := (Pth.lens hrl).1
    have hrlI : (0 : Int) < (rl.length : Int) := by omega
    obtain ⟨k0, _, _, _, _⟩ := hrw3 0 (by omega)
    simp only [Nat.zero_mul, Nat.add_zero] at k0
    by_cases hk0 : (rl.getD 0 M.zero).kind = 0
    · have E := hide (Pth.dropS_null (d := d) (cs := cs) (unhide HRR) hk0)
      rw [hk0] at k0
      have SZ2 : w.heap.size + 1 ≤ W2.heap.size := R2.lt
      clear hk0 HIH HSET HRR SGD HGD V2 O2
      have hrow2 := (unhide HCL) _ C2
      have hnews := hide (fun o => row_words (hrow2.below ((Below.refl W2.heap.size W2).alloc (Nat.le_refl _) o) (Nat.lt_of_lt_of_le hb C2.size)))
      have hone := hide (flat_one v)
      have HFL := hide (flat_length v)
      have hoe := hide (owns_empty5 W2 56)
      have hb63 : 0 + v.length ≤ maxLen := by unfold maxLen; omega
      have hby : (0 + v.length) * 56 ≤ 140737488355328 := by omega
      have HR2 := hide R2
      clear R2 HCL hrow2
      go_wp2_with (at_builtin; refine wpList_append_own _ rfl (.tmp 47) (.tmp 48) 26 rfl W2.heap.size 56 i0 _ 5 56 Tryz.underlying26 hi hz0 hz1 hz2 rfl (by decide) _ 0 [] rfl (unhide hoe) ⟨b, off, none⟩ v.length cap (flat v) rfl (unhide HFL) ((unhide hnews) _) (unhide hone) hb63 hby (by simp) ?_)
      intro sv w3 ho hg _
      have hB : Below W2.heap.size W2 w3 := ((Below.refl _ W2).alloc (Nat.le_refl _) _).grown hg (by simp) (fun q hq => by simp only [Value.ownBlock, Option.some.injEq] at hq; omega)
      have hr3 : Res w3 W2.heap.size sv v := res_of_owns (l := v) (by simpa using ho) (by omega)
      have R3 := (unhide HR2).below hB (unhide HR2).lt
      have F := hide (Pth.ret (hr3.mono SZ2) (C2.trans (hB.mono C2.size)))
      obtain ⟨a3, n3, c3, rfl⟩ := hr3.shape
      clear p0 p1 y0 y1 u0 u1 k0 ho hg hB hr3 hnews hone HFL hoe hb63 hby
      have p0 := R3.cell 0
      have p1 := R3.cell 1
      simp only [List.getElem?_cons_zero, List.getElem?_cons_succ] at p0 p1
      have y0 := R3.frozen 0
      have y1 := R3.frozen 1
      go_wp2_with fail
      refine bodyPost_ret (v := .agg #[.int .i64 0, .slice a3 n3 c3]) (by simp [results, Tryz.results23, go_sem, p0, p1]) rfl (ans_of (unhide E) ((unhide F) _ _).1 ((unhide F) _ _).2)
    have HC := hide (fun W (hW : Below W2.heap.size W2 W) => (unhide HIH) rl b3 c2 W (C2.trans (hW.mono C2.size)) hrl (hrw3.below hW hlt3) (Nat.lt_of_lt_of_le hlt3 hW.size) hc3)
    have SG := hide ((unhide SGD) rl hrl)
    have EIN := hide (fun R h2 hz => Pth.dropS_in (d := d) (cs := cs) (R := R) (unhide HRR) hk0 h2 hz)
    have EOK := hide (fun l2 h2 => Pth.dropS_ok (d := d) (cs := cs) (l2 := l2) (unhide HRR) hk0 h2)
    have kn : ((rl.getD 0 M.zero).kind == 0) = false := by rw [beq_eq_false_iff_ne]; exact hk0
    clear V2 hrw3 HIH SGD HRR HGD hk0 HCL
    generalize (rl.getD 0 M.zero).kind = kd at *
    generalize hR2 : Pth.dropS rl (d :: cs) = RR at *
    clear hR2
    obtain ⟨rc2, rl2⟩ := RR
    have KEEP := hide (fun W (hW : Below W2.heap.size W2 W) => (hW.cell O2.lt (p := ⟨g2, 1, none⟩)).trans u1)
    have BR := Below.refl W2.heap.size W2
    have hO2 := hide O2
    have hR2 := hide R2
    have SZ2 : w.heap.size + 1 ≤ W2.heap.size := R2.lt
    clear O2 R2
    go_upto_region 13 with fail
    clear u0 u1 k0
    refine Z.region 6 (fun w' => Below W2.heap.size W2 w') (by kernel_rfl) BR.drew (fun hHeld => ?_)
    refine Z.take (i := 0) (d := 51) (v := .pointer (some ⟨g2, 1, none⟩)) rfl rfl (by kernel_rfl) (by kernel_rfl) (by kernel_rfl) (by kernel_rfl) (fun _ _ _ h => h) (Or.inl ⟨by rfl, ?_⟩) hHeld ?_
    · intro w' hSw; go_simp
    simp only [Act.put, List.setIfInBounds_toArray, List.set_cons_zero, List.set_cons_succ]
    refine Z.take (i := 1) (d := 52) (v := .slice (some ⟨b3, 0, none⟩) rl.length c2) rfl rfl (by kernel_rfl) (by kernel_rfl) (by kernel_rfl) (by kernel_rfl) (fun _ _ _ h => h) (Or.inl ⟨by rfl, ?_⟩) hHeld ?_
    · intro w' hSw; have g1 := (unhide KEEP) _ hSw; go_simp
    simp only [Act.put, List.setIfInBounds_toArray, List.set_cons_zero, List.set_cons_succ]
    refine Z.take (i := 2) (d := 53) (v := .slice (some ⟨pg, po, none⟩) (cs.length + 1 + 1) cap') rfl rfl (by kernel_rfl) (by kernel_rfl) (by kernel_rfl) (by kernel_rfl) (fun _ _ _ h => h) (Or.inl ⟨by rfl, ?_⟩) hHeld ?_
    · intro w' hSw; go_simp
    simp only [Act.put, List.setIfInBounds_toArray, List.set_cons_zero, List.set_cons_succ]
    refine Z.take (i := 3) (d := 54) (v := .slice (some ⟨pg, po', none⟩) (cs.length + 1) (cap' - 1)) rfl rfl (by kernel_rfl) (by kernel_rfl) (by kernel_rfl) (by kernel_rfl) (fun _ _ _ h => h) (Or.inl ⟨by rfl, ?_⟩) hHeld ?_
    · intro w' hSw; have e2 := unhide ho1; have e4 : 1 < cap' := by omega
      have e5 : (1 : Int) ≤ (cs.length : Int) + 1 + 1 := by omega
      have e6 : cap' ≠ 1 := by omega
      subst e2
      go_simp
      try omega
    simp only [Act.put, List.setIfInBounds_toArray, List.set_cons_zero, List.set_cons_succ]
    refine Z.ready (rs := [4, 5]) (by kernel_rfl) (by simp) (Z.call_cons (i := 4) rfl (by rfl) (fun K hK => ?_) (Z.val_cons (i := 5) (d := 7) (v := .pointer (some ⟨W2.heap.size, 0, none⟩)) (w' := (W2.drew).alloc (.cells #[.int .i64 0, .slice none 0 0] 49)) rfl (by rfl) (fun K hK => ?_) (fun _ => BR.drew.alloc (Nat.le_refl _) _) ?_ Z.All.nil))
    · go_simp
      refine ((unhide HC) _ BR.drew).mono ?_
      rintro e3 w3 ⟨s3, rfl, hr3, hb3⟩
      have hb3' : Below W2.heap.size W2 w3 := BR.drew.trans (hb3.mono (Nat.le_refl _))
      obtain ⟨a3, n3, c3, rfl⟩ := hr3.shape
      have hr3' : Res w3 W2.heap.size (.slice a3 n3 c3) rl2 := hr3
      go_simp
      refine hK.out _ _ (fun _ => hb3') ?_
      clear hK K
      try simp only [Act.put, List.setIfInBounds_toArray, List.set_cons_zero, List.set_cons_succ]
      obtain ⟨W3, hW3⟩ : ∃ W3, W3 = w3.alloc (.cells #[.int .i64 rc2, .slice a3 n3 c3] 49) := ⟨_, rfl⟩
      have O3 : Own W3 w3.heap.size 49 [.int .i64 rc2, .slice a3 n3 c3] := by rw [hW3]; exact ⟨_, heap_alloc_new _ _, rfl⟩
      have R3 : Own W3 w.heap.size 49 [.int .i64 0, .slice none 0 0] := by rw [hW3]; exact ((unhide hR2).below hb3' (unhide hR2).lt).alloc _
      have V3 : Res W3 (w.heap.size + 1) (.slice a3 n3 c3) rl2 := by rw [hW3]; exact (hr3'.alloc _).mono SZ2
      have C3 : Below w.heap.size w W3 := by rw [hW3]; exact (C2.trans (hb3'.mono C2.size)).alloc (by have := C2.size; have := hb3'.size; omega) _
      refine Z.ready (rs := [5]) (by kernel_rfl) (by simp) (Z.val_cons (i := 5) (d := 7) (v := .pointer (some ⟨w3.heap.size, 0, none⟩)) (w' := w3.alloc (.cells #[.int .i64 0, .slice none 0 0] 49)) rfl (by rfl) (fun K hK => ?_) (fun _ => hb3'.alloc (by have := hb3'.size; omega) _) ?_ Z.All.nil)
      · go_simp
        exact hK.out
      simp only [Act.put, List.setIfInBounds_toArray, List.set_cons_zero, List.set_cons_succ]
      refine Z.ready (rs := [6]) (by kernel_rfl) (by simp) (Z.same (i := 6) (w' := W3) rfl (by rfl) (fun K hK => ?_) (fun h => absurd rfl h) ?_ Z.All.nil)
      · go_simp
        rw [← hW3]
        exact hK.out
      refine Z.done (by kernel_rfl) ?_ _
      clear hW3 hr3 hr3' hb3 hb3' HC KEEP hO2 hR2 BR hHeld
      generalize w3.heap.size = g3 at *
      clear p0 p1 y0 y1
      have p0 := R3.cell 0
      have p1 := R3.cell 1
      simp only [List.getElem?_cons_zero, List.getElem?_cons_succ] at p0 p1
      have y0 := R3.frozen 0
      have y1 := R3.frozen 1
      have u0 := O3.cell 0
      have u1 := O3.cell 1
      simp only [List.getElem?_cons_zero, List.getElem?_cons_succ] at u0 u1

      by_cases hz2 : rc2 = 0
      · subst hz2
        have hr0 : M.valueFault rl2 = 0 := (unhide SG).ok rfl
        obtain ⟨b4, c4', hsh, hc4, hl4, hlt4, hrw4⟩ := V3.rowedQ (Pth.val_ne hr0)
        simp only [Value.slice.injEq] at hsh
        obtain ⟨rfl, rfl, rfl⟩ := hsh
        have HC := hide (fun W (hW : Below W3.heap.size W3 W) => (unhide HSET) rl2 b4 c3 W (C3.trans (hW.mono C3.size)) hr0 (hrw4.below hW hlt4) (Nat.lt_of_lt_of_le hlt4 hW.size) hc4)
        have EE := hide ((unhide EOK) rl2 rfl)
        have hR3 := hide R3
        have SZ3 : w.heap.size + 1 ≤ W3.heap.size := R3.lt
        have KEEP := hide (fun W (hW : Below W3.heap.size W3 W) => (hW.cell O3.lt (p := ⟨g3, 1, none⟩)).trans u1)
        have BR := Below.refl W3.heap.size W3
        clear V3 hrw4 SG EIN EOK HSET O3 R3
        generalize Pth.setS v [c] rl2 = R4 at *
        obtain ⟨rc4, rl4⟩ := R4
        go_upto_region 16 with fail
        clear u0 u1 p0 p1 y0 y1
        refine Z.region 6 (fun w' => Below W3.heap.size W3 w') (by kernel_rfl) BR.drew (fun hHeld => ?_)
        refine Z.take (i := 0) (d := 60) (v := .slice (some ⟨b, off, none⟩) v.length cap) rfl rfl (by kernel_rfl) (by kernel_rfl) (by kernel_rfl) (by kernel_rfl) (fun _ _ _ h => h) (Or.inl ⟨by rfl, ?_⟩) hHeld ?_
        · intro w' hSw; go_simp
        simp only [Act.put, List.setIfInBounds_toArray, List.set_cons_zero, List.set_cons_succ]
        refine Z.take (i := 1) (d := 61) (v := .slice (some ⟨pg, po, none⟩) (cs.length + 1 + 1) cap') rfl rfl (by kernel_rfl) (by kernel_rfl) (by kernel_rfl) (by kernel_rfl) (fun _ _ _ h => h) (Or.inl ⟨by rfl, ?_⟩) hHeld ?_
        · intro w' hSw; go_simp
        simp only [Act.put, List.setIfInBounds_toArray, List.set_cons_zero, List.set_cons_succ]
        refine Z.take (i := 2) (d := 62) (v := .slice (some ⟨pg, po, none⟩) 1 cap') rfl rfl (by kernel_rfl) (by kernel_rfl) (by kernel_rfl) (by kernel_rfl) (fun _ _ _ h => h) (Or.inl ⟨by rfl, ?_⟩) hHeld ?_
        · intro w' hSw; go_simp; try omega
        simp only [Act.put, List.setIfInBounds_toArray, List.set_cons_zero, List.set_cons_succ]
        refine Z.take (i := 3) (d := 63) (v := .pointer (some ⟨g3, 1, none⟩)) rfl rfl (by kernel_rfl) (by kernel_rfl) (by kernel_rfl) (by kernel_rfl) (fun _ _ _ h => h) (Or.inl ⟨by rfl, ?_⟩) hHeld ?_
        · intro w' hSw; go_simp
        simp only [Act.put, List.setIfInBounds_toArray, List.set_cons_zero, List.set_cons_succ]
        refine Z.take (i := 4) (d := 64) (v := .slice (some ⟨b4, 0, none⟩) rl2.length c3) rfl rfl (by kernel_rfl) (by kernel_rfl) (by kernel_rfl) (by kernel_rfl) (fun _ _ _ h => h) (Or.inl ⟨by rfl, ?_⟩) hHeld ?_
        · intro w' hSw; have g1 := (unhide KEEP) _ hSw; go_simp
        simp only [Act.put, List.setIfInBounds_toArray, List.set_cons_zero, List.set_cons_succ]
        refine Z.only (i := 5) (d := 65) rfl rfl (by kernel_rfl) (by rfl) (fun K hK => ?_)
        go_simp
        refine ((unhide HC) _ BR.drew).mono ?_
        rintro e4 w4 ⟨s4, rfl, hr4, hb4⟩
        have hb4' : Below W3.heap.size W3 w4 := BR.drew.trans (hb4.mono (Nat.le_refl _))
        have hr4' : Res w4 W3.heap.size s4 rl4 := hr4
        obtain ⟨a4, n4, c4, rfl⟩ := hr4'.shape
        go_simp
        refine hK.out (.agg #[.int .i64 rc4, .slice a4 n4 c4]) _ hb4' ?_
        clear hK K
        simp only [Act.put, List.setIfInBounds_toArray, List.set_cons_zero, List.set_cons_succ]
        have R4 := (unhide hR3).below hb4' (unhide hR3).lt
        have F := hide (Pth.ret (hr4'.mono SZ3) (C3.trans (hb4'.mono C3.size)) (.int .i64 rc4) (.slice a4 n4 c4))
        have p0 := R4.cell 0
        have p1 := R4.cell 1
        simp only [List.getElem?_cons_zero, List.getElem?_cons_succ] at p0 p1
        have y0 := R4.frozen 0
        have y1 := R4.frozen 1

        refine Z.last_at (w' := (w4.setCell ⟨w.heap.size, 0, none⟩ (.int .i64 rc4)).setCell ⟨w.heap.size, 1, none⟩ (.slice a4 n4 c4)) rfl (by kernel_rfl) (by rfl) (fun K hK => ?_) ?_
        · go_simp
          exact hK.out
        refine Z.done (by kernel_rfl) ?_ _
        have R5 := (R4.set 0 (.int .i64 rc4)).set 1 (.slice a4 n4 c4)
        simp only [List.set_cons_zero, List.set_cons_succ] at R5
        clear p0 p1 y0 y1 R4 hr4 hr4' hb4 hb4' HC KEEP BR hHeld
        generalize (w4.setCell ⟨w.heap.size, 0, none⟩ (.int .i64 rc4)).setCell ⟨w.heap.size, 1, none⟩ (.slice a4 n4 c4) = W5 at *
        have p0 := R5.cell 0
        have p1 := R5.cell 1
        simp only [List.getElem?_cons_zero, List.getElem?_cons_succ] at p0 p1

        go_wp2_with fail
        refine bodyPost_ret (v := .agg #[.int .i64 rc4, .slice a4 n4 c4]) (by simp [results, Tryz.results23, go_sem, p0, p1]) rfl (ans_of (unhide EE) (unhide F).1 (unhide F).2)
      · have EE := hide ((unhide EIN) _ rfl hz2)
        have F := hide (Pth.ret V3 C3)
        have hz' : (rc2 == 0) = false := by simp [hz2]
        clear V3 SG EIN EOK HSET O3 R3 hz2
        go_wp2_with fail
        refine bodyPost_ret (v := .agg #[.int .i64 rc2, .slice a3 n3 c3]) (by simp [results, Tryz.results23, go_sem, p0, p1]) rfl (ans_of (unhide EE) ((unhide F) _ _).1 ((unhide F) _ _).2)
    · go_simp
      exact hK.out
    · simp only [Act.put, List.setIfInBounds_toArray, List.set_cons_zero, List.set_cons_succ]
      obtain ⟨Wz, hWz⟩ : ∃ Wz, Wz = (W2.drew).alloc (.cells #[.int .i64 0, .slice none 0 0] 49) := ⟨_, rfl⟩
      have BZ : Below W2.heap.size W2 Wz := by rw [hWz]; exact BR.drew.alloc (Nat.le_refl _) _
      have OZ : Own Wz W2.heap.size 49 [.int .i64 0, .slice none 0 0] := by rw [hWz]; exact ⟨_, heap_alloc_new _ _, rfl⟩
      rw [← hWz]
      clear hWz
      refine Z.ready (rs := [4]) (by kernel_rfl) (by simp) (Z.call_cons (i := 4) rfl (by rfl) (fun K hK => ?_) Z.All.nil)
      go_simp
      refine ((unhide HC) _ BZ).mono ?_
      rintro e3 w3 ⟨s3, rfl, hr3, hb3⟩
      have hb3' : Below W2.heap.size W2 w3 := BZ.trans (hb3.mono BZ.size)
      obtain ⟨a3, n3, c3, rfl⟩ := hr3.shape
      go_simp
      refine hK.out _ _ (fun _ => hb3') ?_
      clear hK K
      try simp only [Act.put, List.setIfInBounds_toArray, List.set_cons_zero, List.set_cons_succ]
      have OZ3 := OZ.below hb3 OZ.lt
      generalize hg3 : W2.heap.size = g3 at *
      have z0 := OZ3.cell 0
      have z1 := OZ3.cell 1
      have s0 := OZ3.frozen 0
      have s1 := OZ3.frozen 1
      simp only [List.getElem?_cons_zero, List.getElem?_cons_succ] at z0 z1
      obtain ⟨W3, hW3⟩ : ∃ W3, W3 = (w3.setCell ⟨g3, 0, none⟩ (.int .i64 rc2)).setCell ⟨g3, 1, none⟩ (.slice a3 n3 c3) := ⟨_, rfl⟩
      have O3 : Own W3 g3 49 [.int .i64 rc2, .slice a3 n3 c3] := by rw [hW3]; simpa using (OZ3.set 0 (.int .i64 rc2)).set 1 (.slice a3 n3 c3)
      have R3 : Own W3 w.heap.size 49 [.int .i64 0, .slice none 0 0] := by
        have hl := (unhide hR2).lt
        rw [hg3] at hl
        rw [hW3]; exact (((unhide hR2).below hb3' hl).setOther _ _ (by show w.heap.size ≠ g3; omega)).setOther _ _ (by show w.heap.size ≠ g3; omega)
      have hzl := OZ.lt
      have V3 : Res W3 (w.heap.size + 1) (.slice a3 n3 c3) rl2 := by
        have hne : ∀ b, (Value.slice a3 n3 c3).ownBlock = some b → b ≠ g3 := fun b hq => by have := hr3.base b hq; omega
        rw [hW3]; exact ((hr3.mono (by omega)).setOther _ _ hne).setOther _ _ hne
      have C3 : Below w.heap.size w W3 := by
        have hcs := C2.size
        rw [hg3] at hcs
        rw [hW3]; exact ((C2.trans (hb3'.mono hcs)).setCell (by show w.heap.size ≤ g3; omega) _).setCell (by show w.heap.size ≤ g3; omega) _
      refine Z.ready (rs := [6]) (by kernel_rfl) (by simp) (Z.same (i := 6) (w' := W3) rfl (by rfl) (fun K hK => ?_) (fun h => absurd rfl h) ?_ Z.All.nil)
      · go_simp
        rw [← hW3]
        exact hK.out
      refine Z.done (by kernel_rfl) ?_ _
      clear hW3 hr3 hb3 hb3' HC KEEP hO2 hR2 BR hHeld OZ OZ3 z0 z1 s0 s1 BZ hzl
      clear hg3
      clear p0 p1 y0 y1
      have p0 := R3.cell 0
      have p1 := R3.cell 1
      simp only [List.getElem?_cons_zero, List.getElem?_cons_succ] at p0 p1
      have y0 := R3.frozen 0
      have y1 := R3.frozen 1
      have u0 := O3.cell 0
      have u1 := O3.cell 1
      simp only [List.getElem?_cons_zero, List.getElem?_cons_succ] at u0 u1

      by_cases hz2 : rc2 = 0
      · subst hz2
        have hr0 : M.valueFault rl2 = 0 := (unhide SG).ok rfl
        obtain ⟨b4, c4', hsh, hc4, hl4, hlt4, hrw4⟩ := V3.rowedQ (Pth.val_ne hr0)
        simp only [Value.slice.injEq] at hsh
        obtain ⟨rfl, rfl, rfl⟩ := hsh
        have HC := hide (fun W (hW : Below W3.heap.size W3 W) => (unhide HSET) rl2 b4 c3 W (C3.trans (hW.mono C3.size)) hr0 (hrw4.below hW hlt4) (Nat.lt_of_lt_of_le hlt4 hW.size) hc4)
        have EE := hide ((unhide EOK) rl2 rfl)
        have hR3 := hide R3
        have SZ3 : w.heap.size + 1 ≤ W3.heap.size := R3.lt
        have KEEP := hide (fun W (hW : Below W3.heap.size W3 W) => (hW.cell O3.lt (p := ⟨g3, 1, none⟩)).trans u1)
        have BR := Below.refl W3.heap.size W3
        clear V3 hrw4 SG EIN EOK HSET O3 R3
        generalize Pth.setS v [c] rl2 = R4 at *
        obtain ⟨rc4, rl4⟩ := R4
        go_upto_region 16 with fail
        clear u0 u1 p0 p1 y0 y1
        refine Z.region 6 (fun w' => Below W3.heap.size W3 w') (by kernel_rfl) BR.drew (fun hHeld => ?_)
        refine Z.take (i := 0) (d := 60) (v := .slice (some ⟨b, off, none⟩) v.length cap) rfl rfl (by kernel_rfl) (by kernel_rfl) (by kernel_rfl) (by kernel_rfl) (fun _ _ _ h => h) (Or.inl ⟨by rfl, ?_⟩) hHeld ?_
        · intro w' hSw; go_simp
        simp only [Act.put, List.setIfInBounds_toArray, List.set_cons_zero, List.set_cons_succ]
        refine Z.take (i := 1) (d := 61) (v := .slice (some ⟨pg, po, none⟩) (cs.length + 1 + 1) cap') rfl rfl (by kernel_rfl) (by kernel_rfl) (by kernel_rfl) (by kernel_rfl) (fun _ _ _ h => h) (Or.inl ⟨by rfl, ?_⟩) hHeld ?_
        · intro w' hSw; go_simp
        simp only [Act.put, List.setIfInBounds_toArray, List.set_cons_zero, List.set_cons_succ]
        refine Z.take (i := 2) (d := 62) (v := .slice (some ⟨pg, po, none⟩) 1 cap') rfl rfl (by kernel_rfl) (by kernel_rfl) (by kernel_rfl) (by kernel_rfl) (fun _ _ _ h => h) (Or.inl ⟨by rfl, ?_⟩) hHeld ?_
        · intro w' hSw; go_simp; try omega
        simp only [Act.put, List.setIfInBounds_toArray, List.set_cons_zero, List.set_cons_succ]
        refine Z.take (i := 3) (d := 63) (v := .pointer (some ⟨g3, 1, none⟩)) rfl rfl (by kernel_rfl) (by kernel_rfl) (by kernel_rfl) (by kernel_rfl) (fun _ _ _ h => h) (Or.inl ⟨by rfl, ?_⟩) hHeld ?_
        · intro w' hSw; go_simp
        simp only [Act.put, List.setIfInBounds_toArray, List.set_cons_zero, List.set_cons_succ]
        refine Z.take (i := 4) (d := 64) (v := .slice (some ⟨b4, 0, none⟩) rl2.length c3) rfl rfl (by kernel_rfl) (by kernel_rfl) (by kernel_rfl) (by kernel_rfl) (fun _ _ _ h => h) (Or.inl ⟨by rfl, ?_⟩) hHeld ?_
        · intro w' hSw; have g1 := (unhide KEEP) _ hSw; go_simp
        simp only [Act.put, List.setIfInBounds_toArray, List.set_cons_zero, List.set_cons_succ]
        refine Z.only (i := 5) (d := 65) rfl rfl (by kernel_rfl) (by rfl) (fun K hK => ?_)
        go_simp
        refine ((unhide HC) _ BR.drew).mono ?_
        rintro e4 w4 ⟨s4, rfl, hr4, hb4⟩
        have hb4' : Below W3.heap.size W3 w4 := BR.drew.trans (hb4.mono (Nat.le_refl _))
        have hr4' : Res w4 W3.heap.size s4 rl4 := hr4
        obtain ⟨a4, n4, c4, rfl⟩ := hr4'.shape
        go_simp
        refine hK.out (.agg #[.int .i64 rc4, .slice a4 n4 c4]) _ hb4' ?_
        clear hK K
        simp only [Act.put, List.setIfInBounds_toArray, List.set_cons_zero, List.set_cons_succ]
        have R4 := (unhide hR3).below hb4' (unhide hR3).lt
        have F := hide (Pth.ret (hr4'.mono SZ3) (C3.trans (hb4'.mono C3.size)) (.int .i64 rc4) (.slice a4 n4 c4))
        have p0 := R4.cell 0
        have p1 := R4.cell 1
        simp only [List.getElem?_cons_zero, List.getElem?_cons_succ] at p0 p1
        have y0 := R4.frozen 0
        have y1 := R4.frozen 1

        refine Z.last_at (w' := (w4.setCell ⟨w.heap.size, 0, none⟩ (.int .i64 rc4)).setCell ⟨w.heap.size, 1, none⟩ (.slice a4 n4 c4)) rfl (by kernel_rfl) (by rfl) (fun K hK => ?_) ?_
        · go_simp
          exact hK.out
        refine Z.done (by kernel_rfl) ?_ _
        have R5 := (R4.set 0 (.int .i64 rc4)).set 1 (.slice a4 n4 c4)
        simp only [List.set_cons_zero, List.set_cons_succ] at R5
        clear p0 p1 y0 y1 R4 hr4 hr4' hb4 hb4' HC KEEP BR hHeld
        generalize (w4.setCell ⟨w.heap.size, 0, none⟩ (.int .i64 rc4)).setCell ⟨w.heap.size, 1, none⟩ (.slice a4 n4 c4) = W5 at *
        have p0 := R5.cell 0
        have p1 := R5.cell 1
        simp only [List.getElem?_cons_zero, List.getElem?_cons_succ] at p0 p1

        go_wp2_with fail
        refine bodyPost_ret (v := .agg #[.int .i64 rc4, .slice a4 n4 c4]) (by simp [results, Tryz.results23, go_sem, p0, p1]) rfl (ans_of (unhide EE) (unhide F).1 (unhide F).2)
      · have EE := hide ((unhide EIN) _ rfl hz2)
        have F := hide (Pth.ret V3 C3)
        have hz' : (rc2 == 0) = false := by simp [hz2]
        clear V3 SG EIN EOK HSET O3 R3 hz2
        go_wp2_with fail
        refine bodyPost_ret (v := .agg #[.int .i64 rc2, .slice a3 n3 c3]) (by simp [results, Tryz.results23, go_sem, p0, p1]) rfl (ans_of (unhide EE) ((unhide F) _ _).1 ((unhide F) _ _).2)
  · have E := hide (Pth.dropS_at (d := d) (cs := cs) (unhide HRR) hz)
    have F := hide (Pth.ret V2 C2)
    have hz' : (rc == 0) = false := by simp [hz]
    clear hz HIH HSET HRR SGD HGD V2 O2 R2 HCL
    go_wp2_with fail
    refine bodyPost_ret (v := .agg #[.int .i64 rc, .slice a2 n2 c2]) (by simp [results, Tryz.results23, go_sem, p0, p1]) rfl (ans_of (unhide E) ((unhide F) _ _).1 ((unhide F) _ _).2)

theorem l13Drop_any (cs : List M.Cl) (hs : ∀ c ∈ cs, Pth.Stp c) : Pth.DrpM cs := by
  induction cs with
  | nil => exact l13Drop_nil
  | cons c cs ih =>
    cases cs with
    | nil => exact l13Drop_one c (hs c (by simp))
    | cons d cs => exact l13Drop_more c d cs hs (hide (ih (fun x hx => hs x (by simp [hx]))))
end Go.Proofs.YtoaibccmlmaknaaGreat

namespace Go.Proofs.YtoaibccmlmaknaaGreat
open Go.RowKit
set_option linter.unusedVariables false

set_option maxRecDepth 100000 in
set_option maxHeartbeats 1000000 in
theorem implDropPath_any (v : List M.Cl) (b off cap : Nat) (p : List M.Cl) (b' off' cap' : Nat) (w : World) (hrow : Row w b off v) (hb : b < w.heap.size) (hn : v.length ≤ 1048576) (hcap : v.length ≤ cap) (hok : ∀ c ∈ v, c.ok) (hrow' : Row w b' off' p) (hb' : b' < w.heap.size) (hn' : p.length ≤ 1048576) (hcap' : p.length ≤ cap') (hc : cap' ≤ 9223372036854775807) (hok' : ∀ c ∈ p, c.ok) :
    Calls Tryz.prog 50 #[.slice (some ⟨b, off, none⟩) v.length cap, .slice (some ⟨b', off', none⟩) p.length cap'] w (Ans w (Pth.dropOutP v p)) := by
  have B0 : ∀ o, Below w.heap.size w (w.alloc o) := fun o => (Below.refl _ _).alloc (Nat.le_refl _) o
  have HA := hide (fun x => pathedFault_any v b off cap p b' off' cap' (w.alloc x) (hrow.below (B0 x) hb) (by simp; omega) hn hcap hok (hrow'.below (B0 x) hb') (by simp; omega) hn' hcap' hc hok')
  have HB0 := hide B0
  clear B0 hok hok'
  go_enter Tryz.func50, Tryz.ntmps50
  go_wp2_with fail
  refine ((unhide HA) _).mono ?_
  rintro e1 w1 ⟨rfl, hb1⟩
  have hR : Own w1 w.heap.size 49 [.int .i64 0, .slice none 0 0] := Own.below ⟨_, heap_alloc_new _ _, rfl⟩ hb1 (by simp)
  have B1 : Below w.heap.size w w1 := ((unhide HB0) _).trans (hb1.mono (by simp))
  have hrow1 := hrow.below B1 hb
  have hb1' : b < w1.heap.size := Nat.lt_of_lt_of_le hb B1.size
  have hrow2 := hrow'.below B1 hb'
  have hb2' : b' < w1.heap.size := Nat.lt_of_lt_of_le hb' B1.size
  clear hb1 HA hrow hrow'
  generalize hq : Pth.asked v p = q
  by_cases hz : q = 0
  · subst hz
    have fin := hide (Pth.dropP_ok hq)
    obtain ⟨hv, hp⟩ := Pth.asked_no hq
    have hst := (Pth.steps hp).2.2
    have hpv := (Pth.fault_no hp).1
    have hpl := Pth.lens hpv
    have HD := hide (List.length_drop (i := 1) (l := p))
    have HSO := hide (stepsOf_any p b' off' cap' w1 hpl.1 hc hcap' hrow2)
    have HG := hide (fun o (r : Row w1 b' o (p.drop 1)) => dropSteps_any (p.drop 1) hst v b off cap b' o (cap' - 1) w1 hv hrow1 hb1' hcap r hb2' (by rw [unhide HD]; omega) (by omega))
    clear hq hv hp hst hpv hpl hrow1 hrow2 HD
    generalize hR2 : Pth.dropS v (p.drop 1) = R at *
    obtain ⟨rc, rl⟩ := R
    clear hR2
    generalize p.drop 1 = cs at *
    go_wp2_with fail
    refine (unhide HSO).mono ?_
    rintro e2 w2 ⟨o, rfl, hw2, hr2⟩
    rw [hw2]
    have HGO := hide ((unhide HG) o hr2)
    clear hw2 w2 hr2 HG HSO
    go_wp2_with fail
    refine (unhide HGO).mono ?_
    rintro ec wc ⟨sc, rfl, hrc, hbc⟩
    have hRc := hR.below hbc hR.lt
    have r0 := hRc.cell 0
    have r1 := hRc.cell 1
    have z0 := hRc.frozen 0
    have z1 := hRc.frozen 1
    simp only [List.getElem?_cons_zero, List.getElem?_cons_succ] at r0 r1
    have HE := hide (Ans.store hrc B1 hR.lt hbc)
    obtain ⟨ac, mc, cc, rfl⟩ := hrc.shape
    clear hrc hbc
    go_wp2_with fail
    refine bodyPost_ret (v := .agg #[.int .i64 rc, .slice ac mc cc]) (by simp [results, Tryz.results50, go_sem, r0, r1]) rfl (ans_of (unhide fin) ((unhide HE) _ _).1 ((unhide HE) _ _).2)
  · have fin := hide ((Pth.dropP_bad (by rw [hq]; exact hz)).trans (by rw [hq]))
    have hz' : (q == 0) = false := by simp [hz]
    have r0 := hR.cell 0
    have r1 := hR.cell 1
    have z0 := hR.frozen 0
    have z1 := hR.frozen 1
    simp only [List.getElem?_cons_zero, List.getElem?_cons_succ] at r0 r1
    clear hq hrow1 hrow2
    go_wp2_with fail
    refine bodyPost_ret (v := .agg #[.int .i64 q, .slice none 0 0]) (by simp [results, Tryz.results50, go_sem, r0, r1]) rfl (ans_of (unhide fin) (resNil _ _) (store_below B1 _ _))

end Go.Proofs.YtoaibccmlmaknaaGreat
