/-
  spec.l13SetIndex.
  impl.setSteps by induction on the steps.
  impl.SetPath and spec.SetPath, whole.
  Paths as they lie in memory: rows of steps, rows of paths; an append of a row that may be nil.
-/
import Derived.Test.YtcglddahphkcpaaGreatDoorU18
import Derived.Test.YtcglddahphkcpaaGreatDoorU22
import Derived.Test.YtcglddahphkcpaaGreatDoorU24
import Derived.Test.YtcglddahphkcpaaGreatDoorU25
import Derived.Laws.OwnMore
namespace Go.Proofs.YtcglddahphkcpaaGreatDoor
open Go.RowKit
set_option linter.unusedVariables false
set_option linter.unusedSimpArgs false

/-- The slice from a on holds the steps, each as a list of its own. -/
def Pth.PL (w : World) (a : Option Addr) (cs : List M.Cl) : Prop := cs = [] ∨ ∃ g o, a = some ⟨g, o, none⟩ ∧ g < w.heap.size ∧ ∀ i, i < cs.length → ∃ b off c, w.cell? ⟨g, o + i, none⟩ = some (.slice (some ⟨b, off, none⟩) 1 c) ∧ 1 ≤ c ∧ b < w.heap.size ∧ Row w b off [cs.getD i M.zero]
end Go.Proofs.YtcglddahphkcpaaGreatDoor

namespace Go.Proofs.YtcglddahphkcpaaGreatDoor
open Go.RowKit
set_option linter.unusedVariables false
set_option linter.unusedSimpArgs false

set_option maxRecDepth 100000 in
set_option maxHeartbeats 1000000 in
theorem setSteps_nil (x : List M.Cl) (hx : M.valueFault x = 0) : Pth.SetI [] x := by
  intro v b off cap b' o cap' bx ox cx w hv hrow hb hcap hrow' hb' hcap' hc' hrowx hbx hcx
  have HC := hide (fun y => clone_any x bx ox cx (w.alloc y) (hrowx.below ((Below.refl _ _).alloc (Nat.le_refl _) y) hbx) (by simp; omega) (by have := (Pth.lens hx).2; omega))
  have E := hide (show Pth.setS v [] x = (0, x) from rfl)
  clear hv hrow hrow' hrowx hx
  rw [List.length_nil]
  go_enter Tryz.func80, Tryz.ntmps80
  go_wp2_with fail
  refine ((unhide HC) _).mono ?_
  rintro e1 w1 ⟨s1, rfl, hr1, hb1⟩
  simp only [World.size_alloc] at hr1 hb1
  have R1 : Own w1 w.heap.size 59 [.int .i64 0, .slice none 0 0] := Own.below ⟨_, heap_alloc_new _ _, rfl⟩ hb1 (by omega)
  have F := hide (Pth.ret hr1 (((Below.refl _ _).alloc (Nat.le_refl _) _).trans (hb1.mono (by omega))))
  obtain ⟨a1, n1, c1, rfl⟩ := hr1.shape
  clear hr1 hb1 HC
  have p0 := R1.cell 0
  have p1 := R1.cell 1
  have y0 := R1.frozen 0
  have y1 := R1.frozen 1
  simp only [List.getElem?_cons_zero, List.getElem?_cons_succ] at p0 p1
  go_wp2_with fail
  refine bodyPost_ret (v := .agg #[.int .i64 0, .slice a1 n1 c1]) (by simp [results, Tryz.results80, go_sem, p0, p1]) rfl (ans_of (unhide E) ((unhide F) _ _).1 ((unhide F) _ _).2)

/-- A store: what is held in slots stays. -/
theorem Z.same {P : Program} {ops : Array Oper} {Q : Exit → Act → World → Prop} {md : Region.Mode} {S : World → Prop} {z i : Nat} {oi : Oper} {fuel : Nat} {listed : Array Bool} {a : Act} {w w' : World} {rs : List Nat} (hi : ops[i]? = some oi)
    (hw : Region.wanted oi (yielded ops a.tmps) = true) (hrun : ∀ K : Act → World → Prop, Shut (K a w') → Oper.wp P oi a w K Q) (hS : i ≠ z → S w')
    (h : Z.any P md ops Q S z fuel (listed.setIfInBounds i true) a w') (hs : Z.All P md ops Q S z fuel listed a w rs) : Z.All P md ops Q S z fuel listed a w (i :: rs) := Z.run_cons hi hw hrun hS h hs
/-- What is left of steps behind the first lies where the slice of it begins. -/
theorem Pth.sliced_tail {w : World} {b' o cap' : Nat} {c : M.Cl} {cs : List M.Cl} (hrow' : Row w b' o (c :: cs)) (hcap' : cs.length + 1 ≤ cap') : ∃ o', Row w b' o' cs ∧ (1 < cap' → o' = o + 5) ∧ (cap' = 1 → o' = o) := by
  have h1 := hrow'.tail
  simp only [List.drop_succ_cons, List.drop_zero] at h1
  by_cases e : cap' = 1
  · have : cs = [] := List.length_eq_zero_iff.1 (by omega)
    subst this
    exact ⟨o, Row.none _ _ _, fun h => by omega, fun _ => rfl⟩
  · exact ⟨o + 5, h1, fun _ => rfl, fun h => absurd h e⟩

set_option maxRecDepth 100000 in
set_option maxHeartbeats 1000000 in
theorem setSteps_cons (c : M.Cl) (cs x : List M.Cl) (hst : Pth.Stp c) (ih : Hid (Pth.SetI cs x)) (hx : M.valueFault x = 0) : Pth.SetI (c :: cs) x := by
  intro v b off cap b' o cap' bx ox cx w hv hrow hb hcap hrow' hb' hcap' hc' hrowx hbx hcx
  have h0 := hrow' 0 (by simp)
  simp only [Nat.zero_mul, Nat.add_zero, List.getD_cons_zero] at h0
  rw [List.length_cons] at hcap' ⊢
  obtain ⟨o', hrt, ho1, ho2⟩ := Pth.sliced_tail hrow' hcap'
  have KEEP := hide (fun W (h : Below w.heap.size w W) => show W.cell? ⟨b', o, none⟩ = some (.int .i64 c.kind) ∧ W.cell? ⟨b', o + 1, none⟩ = some (.int .i64 c.num) ∧ W.cell? ⟨b', o + 2, none⟩ = some (.string c.text) ∧ W.cell? ⟨b', o + 3, none⟩ = some (.string c.key) ∧ W.cell? ⟨b', o + 4, none⟩ = some (.int .i64 c.n) from
    ⟨(h.cell hb').trans h0.1, (h.cell hb').trans h0.2.1, (h.cell hb').trans h0.2.2.1, (h.cell hb').trans h0.2.2.2.1, (h.cell hb').trans h0.2.2.2.2⟩)
  have L1 : (0 : Int) < ((cs.length + 1 : Nat) : Int) := by omega
  have L3 : (((cs.length + 1 : Nat) : Int) == 0) = false := by simp; omega
  have L4 : Hid ((((cs.length : Int) + 1) == 0) = false) := hide (by simp; omega)
  obtain ⟨W0, hW0⟩ : ∃ W0, W0 = w.alloc (.cells #[.int .i64 0, .slice none 0 0] 59) := ⟨_, rfl⟩
  have B0 : Below w.heap.size w W0 := by rw [hW0]; exact (Below.refl _ _).alloc (Nat.le_refl _) _
  have R0 : Own W0 w.heap.size 59 [.int .i64 0, .slice none 0 0] := by rw [hW0]; exact ⟨_, heap_alloc_new _ _, rfl⟩
  have D0 : Below w.heap.size w W0.drew := B0.drew
  obtain ⟨W1, hW1⟩ : ∃ W1, W1 = (W0.alloc (.cells #[.int .i64 c.kind, .int .i64 c.num, .string c.text, .string c.key, .int .i64 c.n] 111)).drew := ⟨_, rfl⟩
  have B1 : Below w.heap.size w W1 := by rw [hW1]; exact (B0.alloc B0.size _).drew
  have R1 : Own W1 w.heap.size 59 [.int .i64 0, .slice none 0 0] := by rw [hW1]; exact (R0.alloc _).drew
  have O1 : Own W1 W0.heap.size 111 [.int .i64 c.kind, .int .i64 c.num, .string c.text, .string c.key, .int .i64 c.n] := by rw [hW1]; exact Own.drew ⟨_, heap_alloc_new _ _, rfl⟩
  have q0 := O1.cell 0
  have q1 := O1.cell 1
  have q2 := O1.cell 2
  simp only [List.getElem?_cons_zero, List.getElem?_cons_succ] at q0 q1 q2
  have HM := hide (setMember_any cs x ih hx v c.text b off cap b' o' (cap' - 1) bx ox cx W1 hv hst.tx (hrow.below B1 hb) (Nat.lt_of_lt_of_le hb B1.size) hcap (hrt.below B1 hb') (Nat.lt_of_lt_of_le hb' B1.size) (by omega) (by omega) (hrowx.below B1 hbx) (Nat.lt_of_lt_of_le hbx B1.size) hcx)
  have HE := hide (setElement_any cs x ih hx v c.num b off cap b' o' (cap' - 1) bx ox cx W1 hv hst.lo hst.hi (hrow.below B1 hb) (Nat.lt_of_lt_of_le hb B1.size) hcap (hrt.below B1 hb') (Nat.lt_of_lt_of_le hb' B1.size) (by omega) (by omega) (hrowx.below B1 hbx) (Nat.lt_of_lt_of_le hbx B1.size) hcx)
  have E4 := hide (fun h => Pth.setS_4 (v := v) (c := c) (cs := cs) (x := x) h)
  have E3 := hide (fun h => Pth.setS_3 (v := v) (c := c) (cs := cs) (x := x) h)
  have hkd := hst.kd
  have HO1 := hide ho1
  have HO2 := hide ho2
  clear hst ih hx hv hrow hrow' hrowx hrt h0 O1 R0 ho1 ho2
  generalize hg0 : W0.heap.size = g0 at *
  have R1' := hide R1
  have r0 := R1.cell 0
  have r1 := R1.cell 1
  have y0 := R1.frozen 0
  have y1 := R1.frozen 1
  simp only [List.getElem?_cons_zero, List.getElem?_cons_succ] at r0 r1
  go_enter Tryz.func80, Tryz.ntmps80
  go_upto_region 3 with fail
  rw [← hW0, L4.out]
  clear hW0
  refine Z.region 7 (fun w' => Below w.heap.size w w') (by kernel_rfl) D0 (fun hHeld => ?_)
  refine Z.take (i := 0) (d := 15) (v := .slice (some ⟨b', o, none⟩) (cs.length + 1) cap') rfl rfl (by kernel_rfl) (by kernel_rfl) (by kernel_rfl) (by kernel_rfl) (fun _ _ _ h => h) (Or.inl ⟨by rfl, ?_⟩) hHeld ?_
  · intro w' hSw; go_simp
  simp only [Act.put, List.setIfInBounds_toArray, List.set_cons_zero, List.set_cons_succ]
  refine Z.take (i := 1) (d := 16) (v := .pointer (some ⟨b', o, none⟩)) rfl rfl (by kernel_rfl) (by kernel_rfl) (by kernel_rfl) (by kernel_rfl) (fun _ _ _ h => h) (Or.inl ⟨by rfl, ?_⟩) hHeld ?_
  · intro w' hSw; go_simp
  simp only [Act.put, List.setIfInBounds_toArray, List.set_cons_zero, List.set_cons_succ]
  refine Z.take (i := 2) (d := 17) (v := .agg #[.int .i64 c.kind, .int .i64 c.num, .string c.text, .string c.key, .int .i64 c.n]) rfl rfl (by kernel_rfl) (by kernel_rfl) (by kernel_rfl) (by kernel_rfl) (fun _ _ _ h => h) (Or.inl ⟨by rfl, ?_⟩) hHeld ?_
  · intro w' hSw; obtain ⟨f0, f1, f2, f3, f4⟩ := (unhide KEEP) w' hSw; go_simp
  simp only [Act.put, List.setIfInBounds_toArray, List.set_cons_zero, List.set_cons_succ]
  refine Z.take (i := 3) (d := 18) (v := .slice (some ⟨b', o, none⟩) (cs.length + 1) cap') rfl rfl (by kernel_rfl) (by kernel_rfl) (by kernel_rfl) (by kernel_rfl) (fun _ _ _ h => h) (Or.inl ⟨by rfl, ?_⟩) hHeld ?_
  · intro w' hSw; go_simp
  simp only [Act.put, List.setIfInBounds_toArray, List.set_cons_zero, List.set_cons_succ]
  refine Z.take (i := 4) (d := 19) (v := .slice (some ⟨b', o', none⟩) cs.length (cap' - 1)) rfl rfl (by kernel_rfl) (by kernel_rfl) (by kernel_rfl) (by kernel_rfl) (fun _ _ _ h => h) (Or.inl ⟨by rfl, ?_⟩) hHeld ?_
  · intro w' hSw; skip
    by_cases e : cap' = 1
    · have e2 := (unhide HO2) e
      have e3 : cs.length = 0 := by omega
      subst e2
      subst e
      rw [e3]
      go_simp
    · have e2 := (unhide HO1) (by omega)
      have e4 : 1 < cap' := by omega
      subst e2
      go_simp
      try omega
  simp only [Act.put, List.setIfInBounds_toArray, List.set_cons_zero, List.set_cons_succ]
  refine Z.ready (rs := [5]) (by kernel_rfl) (by simp) (Z.val_cons (i := 5) (d := 7) (v := .pointer (some ⟨g0, 0, none⟩)) (w' := (W0.drew).alloc (.cells #[.int .i64 0, .int .i64 0, .string ByteArray.empty, .string ByteArray.empty, .int .i64 0] 111)) rfl (by rfl) (fun K hK => ?_) (fun _ => D0.alloc D0.size _) ?_ Z.All.nil)
  · go_simp
    exact hK.out
  simp only [Act.put, List.setIfInBounds_toArray, List.set_cons_zero, List.set_cons_succ]
  refine Z.ready (rs := [6]) (by kernel_rfl) (by simp) (Z.same (i := 6) (w' := W1) rfl (by rfl) (fun K hK => ?_) (fun _ => B1) ?_ Z.All.nil)
  · go_simp
    rw [← hW1]
    exact hK.out
  clear hW1
  refine Z.ready (rs := [7]) (by kernel_rfl) (by simp) (Z.val_cons (i := 7) (d := 8) (v := .slice (some ⟨b', o', none⟩) cs.length (cap' - 1)) (w' := W1) rfl (by rfl) (fun K hK => ?_) (fun h => absurd rfl h) ?_ Z.All.nil)
  · go_simp
    exact hK.out
  simp only [Act.put, List.setIfInBounds_toArray, List.set_cons_zero, List.set_cons_succ]
  refine Z.done (by kernel_rfl) ?_ _
  clear hg0 D0
  have SZ : w.heap.size + 1 ≤ W1.heap.size := R1.lt
  rcases hkd with hk | hk
  · have E := hide ((unhide E4) hk)
    rw [hk] at q0
    clear E3 E4 hk HE R1
    generalize Pth.memOut v c.text cs x = R2 at *
    obtain ⟨rc, rl⟩ := R2
    go_wp2_with fail
    refine (unhide HM).mono ?_
    rintro e2 w2 ⟨s2, rfl, hr2, hb2⟩
    have R2 := (unhide R1').below hb2 (unhide R1').lt
    have F := hide (Pth.ret (hr2.mono SZ) (B1.trans (hb2.mono B1.size)))
    obtain ⟨a2, n2, c2, rfl⟩ := hr2.shape
    clear r0 r1 y0 y1 q0 q1 q2 hr2 hb2 HM
    have p0 := R2.cell 0
    have p1 := R2.cell 1
    have y0 := R2.frozen 0
    have y1 := R2.frozen 1
    simp only [List.getElem?_cons_zero, List.getElem?_cons_succ] at p0 p1
    go_wp2_with fail
    refine bodyPost_ret (v := .agg #[.int .i64 rc, .slice a2 n2 c2]) (by simp [results, Tryz.results80, go_sem, p0, p1]) rfl (ans_of (unhide E) ((unhide F) _ _).1 ((unhide F) _ _).2)
  · have E := hide ((unhide E3) (by omega))
    rw [hk] at q0
    clear E3 E4 hk HM R1
    generalize Pth.elOut v c.num cs x = R2 at *
    obtain ⟨rc, rl⟩ := R2
    go_wp2_with fail
    refine (unhide HE).mono ?_
    rintro e2 w2 ⟨s2, rfl, hr2, hb2⟩
    have R2 := (unhide R1').below hb2 (unhide R1').lt
    have F := hide (Pth.ret (hr2.mono SZ) (B1.trans (hb2.mono B1.size)))
    obtain ⟨a2, n2, c2, rfl⟩ := hr2.shape
    clear r0 r1 y0 y1 q0 q1 q2 hr2 hb2 HE
    have p0 := R2.cell 0
    have p1 := R2.cell 1
    have y0 := R2.frozen 0
    have y1 := R2.frozen 1
    simp only [List.getElem?_cons_zero, List.getElem?_cons_succ] at p0 p1
    go_wp2_with fail
    refine bodyPost_ret (v := .agg #[.int .i64 rc, .slice a2 n2 c2]) (by simp [results, Tryz.results80, go_sem, p0, p1]) rfl (ans_of (unhide E) ((unhide F) _ _).1 ((unhide F) _ _).2)
theorem setSteps_any (cs x : List M.Cl) (hx : M.valueFault x = 0) (hs : ∀ c ∈ cs, Pth.Stp c) : Pth.SetI cs x := by
  induction cs with
  | nil => exact setSteps_nil x hx
  | cons c cs ih => exact setSteps_cons c cs x (hs c (by simp)) (hide (ih (fun d hd => hs d (by simp [hd])))) hx
end Go.Proofs.YtcglddahphkcpaaGreatDoor

namespace Go.Proofs.YtcglddahphkcpaaGreatDoor
open Go.RowKit
set_option linter.unusedVariables false
set_option linter.unusedSimpArgs false

set_option maxRecDepth 100000 in
set_option maxHeartbeats 1000000 in
theorem implSetPath_any (v : List M.Cl) (b off cap : Nat) (p : List M.Cl) (b' off' cap' : Nat) (x : List M.Cl) (bx ox cx : Nat) (w : World) (hrow : Row w b off v) (hb : b < w.heap.size) (hn : v.length ≤ 1048576) (hcap : v.length ≤ cap) (hok : ∀ c ∈ v, c.ok) (hrow' : Row w b' off' p) (hb' : b' < w.heap.size) (hn' : p.length ≤ 1048576) (hcap' : p.length ≤ cap') (hc : cap' ≤ 9223372036854775807) (hok' : ∀ c ∈ p, c.ok) (hrowx : Row w bx ox x) (hbx : bx < w.heap.size) (hnx : x.length ≤ 1048576) (hcx : x.length ≤ cx) (hokx : ∀ c ∈ x, c.ok) :
    Calls Tryz.prog 40 #[.slice (some ⟨b, off, none⟩) v.length cap, .slice (some ⟨b', off', none⟩) p.length cap', .slice (some ⟨bx, ox, none⟩) x.length cx] w (Ans w (Pth.setOutP v p x)) := by
  have B0 : ∀ y, Below w.heap.size w (w.alloc y) := fun y => (Below.refl _ _).alloc (Nat.le_refl _) y
  have HA := hide (fun y => pathedFault_any v b off cap p b' off' cap' (w.alloc y) (hrow.below (B0 y) hb) (by simp; omega) hn hcap hok (hrow'.below (B0 y) hb') (by simp; omega) hn' hcap' hc hok')
  have HX := hide (fun W (h : Below w.heap.size w W) => implFault_any x bx ox cx W (hrowx.below h hbx) (Nat.lt_of_lt_of_le hbx h.size) hnx hcx hokx)
  have HB0 := hide B0
  have OK' := hide hok'
  have RX := hide hrowx
  clear B0 hok hok' hokx hrowx
  go_enter Tryz.func40, Tryz.ntmps40
  go_wp2_with fail
  refine ((unhide HA) _).mono ?_
  rintro e1 w1 ⟨rfl, hb1⟩
  have hR : Own w1 w.heap.size 59 [.int .i64 0, .slice none 0 0] := Own.below ⟨_, heap_alloc_new _ _, rfl⟩ hb1 (by simp)
  have B1 : Below w.heap.size w w1 := ((unhide HB0) _).trans (hb1.mono (by simp))
  clear hb1 HA
  generalize hq : Pth.asked v p = q
  by_cases hz : q = 0
  · subst hz
    have EX := hide (fun h => Pth.setP_x (x := x) hq h)
    have EO := hide (fun h => Pth.setP_ok (x := x) hq h)
    obtain ⟨hv, hp⟩ := Pth.asked_no hq
    have hst := Pth.steps hp
    have hpv := (Pth.fault_no hp).1
    have hpl := Pth.lens hpv
    clear hq
    go_wp2_with fail
    refine ((unhide HX) _ B1).mono ?_
    rintro e2 w2 ⟨rfl, hb2⟩
    have B2 : Below w.heap.size w w2 := B1.trans (hb2.mono B1.size)
    have hR2 := hR.below hb2 hR.lt
    have hrow1 := hrow.below B2 hb
    have hb1' : b < w2.heap.size := Nat.lt_of_lt_of_le hb B2.size
    have hrow2 := hrow'.below B2 hb'
    have hb2' : b' < w2.heap.size := Nat.lt_of_lt_of_le hb' B2.size
    clear hb2 HX B1 hR hrow hrow'
    generalize hqx : M.valueFault x = qx at *
    by_cases hzx : qx = 0
    · subst hzx
      have fin := hide ((unhide EO) rfl)
      have HD := hide (List.length_drop (i := 1) (l := p))
      have HSO := hide (stepsOf_any p b' off' cap' w2 hpl.1 hc hcap' hrow2)
      have HG := hide (fun o (r : Row w2 b' o (p.drop 1)) => setSteps_any (p.drop 1) x hqx hst.2.2 v b off cap b' o (cap' - 1) bx ox cx w2 hv hrow1 hb1' hcap r hb2' (by rw [unhide HD]; omega) (by omega) ((unhide RX).below B2 hbx) (Nat.lt_of_lt_of_le hbx B2.size) hcx)
      clear hv hp hst hpv hpl hrow1 hrow2 HD EX EO hqx
      generalize hR2 : Pth.setS v (p.drop 1) x = R at *
      obtain ⟨rc, rl⟩ := R
      clear hR2
      generalize p.drop 1 = cs at *
      go_wp2_with fail
      refine (unhide HSO).mono ?_
      rintro e3 w3 ⟨o, rfl, hw3, hr3⟩
      rw [hw3]
      have HGO := hide ((unhide HG) o hr3)
      clear hw3 w3 hr3 HG HSO
      have hR3 := hR2
      have B3 := B2
      go_wp2_with fail
      refine (unhide HGO).mono ?_
      rintro ec wc ⟨sc, rfl, hrc, hbc⟩
      have hRc := hR3.below hbc hR3.lt
      have r0 := hRc.cell 0
      have r1 := hRc.cell 1
      have z0 := hRc.frozen 0
      have z1 := hRc.frozen 1
      simp only [List.getElem?_cons_zero, List.getElem?_cons_succ] at r0 r1
      have HE := hide (Ans.store hrc B3 hR3.lt hbc)
      obtain ⟨ac, mc, cc, rfl⟩ := hrc.shape
      clear hrc hbc
      go_wp2_with fail
      refine bodyPost_ret (v := .agg #[.int .i64 rc, .slice ac mc cc]) (by simp [results, Tryz.results40, go_sem, r0, r1]) rfl (ans_of (unhide fin) ((unhide HE) _ _).1 ((unhide HE) _ _).2)
    · have fin := hide ((unhide EX) hzx)
      have hz' : (qx == 0) = false := by simp [hzx]
      clear EX EO hv hp hst hpv hpl hrow1 hrow2 hqx
      have r0 := hR2.cell 0
      have r1 := hR2.cell 1
      have z0 := hR2.frozen 0
      have z1 := hR2.frozen 1
      simp only [List.getElem?_cons_zero, List.getElem?_cons_succ] at r0 r1
      go_wp2_with fail
      refine bodyPost_ret (v := .agg #[.int .i64 qx, .slice none 0 0]) (by simp [results, Tryz.results40, go_sem, r0, r1]) rfl (ans_of (unhide fin) (resNil _ _) (store_below B2 _ _))
  · have fin := hide ((Pth.setP_bad (x := x) (by rw [hq]; exact hz)).trans (by rw [hq]))
    have hz' : (q == 0) = false := by simp [hz]
    clear hq HX hrow hrow'
    have r0 := hR.cell 0
    have r1 := hR.cell 1
    have z0 := hR.frozen 0
    have z1 := hR.frozen 1
    simp only [List.getElem?_cons_zero, List.getElem?_cons_succ] at r0 r1
    go_wp2_with fail
    refine bodyPost_ret (v := .agg #[.int .i64 q, .slice none 0 0]) (by simp [results, Tryz.results40, go_sem, r0, r1]) rfl (ans_of (unhide fin) (resNil _ _) (store_below B1 _ _))

end Go.Proofs.YtcglddahphkcpaaGreatDoor

namespace Go.Proofs.YtcglddahphkcpaaGreatDoor
open Go.RowKit
set_option linter.unusedVariables false
set_option linter.unusedSimpArgs false
namespace Al
/-- Blocks of cells, of slices of cells and of texts are kept. -/
def Kq (w w' : World) : Prop := ∀ (k : Nat) (c : Array Value) (t : TypeId), w.heap[k]? = some (Obj.cells c t (0, 0)) → (t = 24 ∨ t = 111 ∨ t = 9) → w'.heap[k]? = w.heap[k]?
theorem Kq.ofBelow {w w' : World} (h : Below w.heap.size w w') : Kq w w' := fun k c t h1 _ => h.block k (Array.getElem?_eq_some_iff.1 h1).1
theorem Kq.own {w w' : World} (h : Kq w w') {b : Nat} {t : TypeId} {xs : List Value} (ho : Own w b t xs) (ht : t = 24 ∨ t = 111 ∨ t = 9) : Own w' b t xs := by
  obtain ⟨c, h1, h2⟩ := ho
  exact ⟨c, (h b c t h1 ht).trans h1, h2⟩
theorem Kq.ownG {w w' : World} (h : Kq w w') {b : Nat} {l : List M.Cl} (ho : OwnG w b 111 l) : OwnG w' b 111 l := by
  obtain ⟨xs, h1, h2⟩ := ho
  exact ⟨xs, h.own h1 (.inr (.inl rfl)), h2⟩
/-- Slices of one cell each. -/
def Sl (w : World) (vs : List Value) (cs : List M.Cl) : Prop := vs.length = cs.length ∧ ∀ i, i < cs.length → ∃ b cap, vs[i]? = some (.slice (some ⟨b, 0, none⟩) 1 cap) ∧ 1 ≤ cap ∧ OwnG w b 111 [cs.getD i M.zero]
theorem Sl.keep {w w' : World} {vs : List Value} {cs : List M.Cl} (h : Sl w vs cs) (hk : Kq w w') : Sl w' vs cs := ⟨h.1, fun i hi => by
  obtain ⟨b, cap, h1, h2, h3⟩ := h.2 i hi
  exact ⟨b, cap, h1, h2, hk.ownG h3⟩⟩
theorem Sl.snoc {w : World} {vs : List Value} {cs : List M.Cl} (h : Sl w vs cs) {c : M.Cl} {b cap : Nat} (hc : 1 ≤ cap) (ho : OwnG w b 111 [c]) : Sl w (vs ++ [.slice (some ⟨b, 0, none⟩) 1 cap]) (cs ++ [c]) := by
  obtain ⟨h1, h2⟩ := h
  refine ⟨by simp [h1], fun i hi => ?_⟩
  by_cases e : i < cs.length
  · obtain ⟨b', cap', q1, q2, q3⟩ := h2 i e
    exact ⟨b', cap', by rw [List.getElem?_append_left (by omega)]; exact q1, q2, by rw [List.getD_eq_getElem?_getD, List.getElem?_append_left e, ← List.getD_eq_getElem?_getD]; exact q3⟩
  · have hi' : i = cs.length := by simp at hi; omega
    subst hi'
    exact ⟨b, cap, by rw [← h1]; simp, hc, by rw [List.getD_eq_getElem?_getD]; simpa using ho⟩
theorem Sl.plain {w : World} {vs : List Value} {cs : List M.Cl} (h : Sl w vs cs) : ∀ u ∈ vs, u.oneCell' = true := by
  intro u hu
  obtain ⟨i, hi, rfl⟩ := List.getElem_of_mem hu
  obtain ⟨b, cap, q1, _⟩ := h.2 i (by rw [← h.1]; exact hi)
  rw [List.getElem?_eq_getElem hi, Option.some.injEq] at q1
  rw [q1]; rfl
/-- A slice that holds steps, each as a list of its own. -/
def PT (w : World) (a : Option Addr) (cs : List M.Cl) : Prop := ∃ vs, Sl w vs cs ∧ (cs = [] ∨ ∃ g o c, a = some ⟨g, o, none⟩ ∧ w.heap[g]? = some (.cells c 24 (0, 0)) ∧ ∀ i, i < cs.length → c.toList[o + i]? = vs[i]?)
theorem PT.keep {w w' : World} {a : Option Addr} {cs : List M.Cl} (h : PT w a cs) (hk : Kq w w') : PT w' a cs := by
  obtain ⟨vs, h1, h2 | ⟨g, o, c, h3, h4, h5⟩⟩ := h
  · exact ⟨vs, h1.keep hk, .inl h2⟩
  · exact ⟨vs, h1.keep hk, .inr ⟨g, o, c, h3, (hk g c _ h4 (.inl rfl)).trans h4, h5⟩⟩
theorem PT.nil (w : World) (a : Option Addr) : PT w a [] := ⟨[], ⟨rfl, fun i hi => by simp at hi⟩, .inl rfl⟩
theorem cell_in {w : World} {g o : Nat} {c : Array Value} {t : TypeId} (h : w.heap[g]? = some (.cells c t (0, 0))) : w.cell? ⟨g, o, none⟩ = c.toList[o]? := Own.cell (xs := c.toList) ⟨c, h, rfl⟩ o
theorem PT.pl {w : World} {a : Option Addr} {cs : List M.Cl} (h : PT w a cs) : Pth.PL w a cs := by
  obtain ⟨vs, h1, h2 | ⟨g, o, c, h3, h4, h5⟩⟩ := h
  · exact .inl h2
  · refine .inr ⟨g, o, h3, (Array.getElem?_eq_some_iff.1 h4).1, fun i hi => ?_⟩
    obtain ⟨b, cap, q1, q2, q3⟩ := h1.2 i hi
    exact ⟨b, 0, cap, by rw [cell_in h4, h5 i hi]; exact q1, q2, q3.lt, q3.row⟩
theorem PT.of_own {w : World} {B : Nat} {v : Value} {vs : List Value} {cs : List M.Cl} (ho : w.ownsRow B 24 1 v cs.length vs) (hs : Sl w vs cs) : ∃ a c, v = .slice a cs.length c ∧ cs.length ≤ c ∧ c ≤ 9223372036854775807 ∧ PT w a cs := by
  obtain ⟨h1, ⟨h2, h3⟩ | ⟨g, cap, cur, h2, h3, h4, h5, h6, h7, h8⟩⟩ := ho
  · have : cs = [] := List.length_eq_zero_iff.1 h3
    subst this
    exact ⟨none, 0, h2, Nat.le_refl _, by omega, PT.nil _ _⟩
  · refine ⟨_, cap, h2, h5, by unfold maxLen at h6; omega, vs, hs, .inr ⟨g, 0, cur, rfl, h4, fun i hi => ?_⟩⟩
    rw [Nat.zero_add, ← h8, List.getElem?_take_of_lt (by omega)]
section
variable {P : Program}
/-- An append of a row that lies somewhere, or of nil. -/
theorem run_row (w : World) (t ty e : TypeId) (i : TypeInfo) (z : Value) (bytes : Nat) (ht : P.underlying t = some (.slice e)) (hi : P.info? e = some i) (hz : i.zero = some z) (hsize : i.size = 1) (hby : i.bytes = bytes) (hzs : z.cells.size = 1)
    (base : Nat) (v : Value) (n : Nat) (xs : List Value) (hown : w.ownsRow base e 1 v n xs) (x : Value) (ys : List Value)
    (hx : (x = .slice none 0 0 ∧ ys = []) ∨ ∃ ad c, x = .slice (some ad) ys.length c ∧ ∀ j u, ys[j]? = some u → w.cell? (ad.add j) = some u) (h1 : ∀ u ∈ ys, u.oneCell' = true)
    (h63 : n + ys.length ≤ maxLen) (hbytes : (n + ys.length) * bytes ≤ 140737488355328) (hbase : base ≤ w.heap.size) :
    ∃ v' w', (Builtin.append_ #[t, t] ty #[v, x]).run P w = .ok v' w' ∧ w'.ownsRow base e 1 v' (n + ys.length) (xs ++ ys) ∧ w.grownBy w' v.ownBlock := by
  rcases hx with ⟨rfl, rfl⟩ | ⟨ad, c, rfl, hc⟩
  · exact ⟨v, w, run_append_owned_none (P := P) (w := w) base t ty e i 1 ht hi v n xs hown, by simpa using hown, ⟨rfl, rfl, rfl, Nat.le_refl _, fun _ _ _ => rfl⟩⟩
  · obtain ⟨v', w', hr, h2, h3, _⟩ := run_append_own (P := P) w base t ty e i z 1 bytes ht hi hz hsize hby hzs (by decide) v n xs hown ad ys.length c ys (by simp) hc h1 h63 hbytes hbase
    exact ⟨v', w', hr, h2, h3⟩
theorem wp_row (w : World) {o : Oper} {a : Act} {K : Act → World → Prop} {Q : Exit → Act → World → Prop} (s x : Operand) (t : TypeId) (ho : o.op = .call { callee := .builtin .append, args := #[s, x], argTypes := #[t, t] })
    (e : TypeId) (i : TypeInfo) (z : Value) (bytes : Nat) (ht : P.underlying t = some (.slice e)) (hi : P.info? e = some i) (hz : i.zero = some z) (hsize : i.size = 1) (hby : i.bytes = bytes) (hzs : z.cells.size = 1)
    (base : Nat) (v : Value) (n : Nat) (xs : List Value) (hs : a.eval s = v) (hown : w.ownsRow base e 1 v n xs) (xv : Value) (hxv : a.eval x = xv) (ys : List Value)
    (hx : (xv = .slice none 0 0 ∧ ys = []) ∨ ∃ ad c, xv = .slice (some ad) ys.length c ∧ ∀ j u, ys[j]? = some u → w.cell? (ad.add j) = some u) (h1 : ∀ u ∈ ys, u.oneCell' = true)
    (h63 : n + ys.length ≤ maxLen) (hbytes : (n + ys.length) * bytes ≤ 140737488355328) (hbase : base ≤ w.heap.size)
    (h : ∀ v' w', w'.ownsRow base e 1 v' (n + ys.length) (xs ++ ys) → w.grownBy w' v.ownBlock → K (a.put o.dst v') w') : Oper.wp P o a w K Q := by
  obtain ⟨v', w', hr, h2, h3⟩ := run_row (P := P) w t o.type e i z bytes ht hi hz hsize hby hzs base v n xs hown xv ys hx h1 h63 hbytes hbase
  unfold Oper.wp execOp
  simp only [ho, resolve, invoke, builtin, Sem.run_bind, Sem.run_pure, Result.andThen_ok, List.map_toArray, List.map_cons, List.map_nil, hs, hxv, hr]
  exact h v' w' h2 h3
theorem wpList_row {w : World} {ops : Array Oper} {rest : List Oper} {o : Oper} {a : Act} {Q : Exit → Act → World → Prop} (hgd : o.guard = none) (s x : Operand) (t : TypeId) (ho : o.op = .call { callee := .builtin .append, args := #[s, x], argTypes := #[t, t] })
    (e : TypeId) (i : TypeInfo) (z : Value) (bytes : Nat) (ht : P.underlying t = some (.slice e)) (hi : P.info? e = some i) (hz : i.zero = some z) (hsize : i.size = 1) (hby : i.bytes = bytes) (hzs : z.cells.size = 1)
    (base : Nat) (v : Value) (n : Nat) (xs : List Value) (hs : a.eval s = v) (hown : w.ownsRow base e 1 v n xs) (xv : Value) (hxv : a.eval x = xv) (ys : List Value)
    (hx : (xv = .slice none 0 0 ∧ ys = []) ∨ ∃ ad c, xv = .slice (some ad) ys.length c ∧ ∀ j u, ys[j]? = some u → w.cell? (ad.add j) = some u) (h1 : ∀ u ∈ ys, u.oneCell' = true)
    (h63 : n + ys.length ≤ maxLen) (hbytes : (n + ys.length) * bytes ≤ 140737488355328) (hbase : base ≤ w.heap.size)
    (h : ∀ v' w', w'.ownsRow base e 1 v' (n + ys.length) (xs ++ ys) → w.grownBy w' v.ownBlock → wpList P ops Q rest (a.put o.dst v') w') : wpList P ops Q (o :: rest) a w := by
  refine wpList_plain hgd fun K hK => ?_
  exact wp_row w s x t ho e i z bytes ht hi hz hsize hby hzs base v n xs hs hown xv hxv ys hx h1 h63 hbytes hbase fun v' w' h2 h3 => hK _ _ (h v' w' h2 h3)
end
end Al
end Go.Proofs.YtcglddahphkcpaaGreatDoor
