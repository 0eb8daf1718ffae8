/-
  impl.setSteps by induction on the steps.
  spec.l13Set by induction on the steps.
-/
import Derived.Test.YtcglddahphkcpaaGreatDoorV32
import Derived.Test.YtcglddahphkcpaaGreatDoorV33
namespace Go.Proofs.YtcglddahphkcpaaGreatDoor
open Go.RowKit
set_option linter.unusedVariables false
set_option linter.unusedSimpArgs false

set_option maxRecDepth 100000 in
set_option maxHeartbeats 1000000 in
theorem setSteps_nil (x : List M.Cl) (hx : M.valueFault x = 0) : Pth.SetI [] x := by
  intro v b off cap b' o cap' bx ox cx w hv hrow hb hcap hrow' hb' hcap' hc' hrowx hbx hcx
  have HC := hide (fun y => clone_any x bx ox cx (w.alloc y) (hrowx.below ((Below.refl _ _).alloc (Nat.le_refl _) y) hbx) (by simp; omega) (by have := (Pth.lens hx).2; omega))
  have E := hide (show Pth.setS v [] x = (0, x) from rfl)
  clear hv hrow hrow' hrowx hx
  rw [List.length_nil]
  go_enter Tryz.func80, Tryz.ntmps80
  go_wp2_with fail
  refine ((unhide HC) _).mono ?_
  rintro e1 w1 ⟨s1, rfl, hr1, hb1⟩
  simp only [World.size_alloc] at hr1 hb1
  have R1 : Own w1 w.heap.size 59 [.int .i64 0, .slice none 0 0] := Own.below ⟨_, heap_alloc_new _ _, rfl⟩ hb1 (by omega)
  have F := hide (Pth.ret hr1 (((Below.refl _ _).alloc (Nat.le_refl _) _).trans (hb1.mono (by omega))))
  obtain ⟨a1, n1, c1, rfl⟩ := hr1.shape
  clear hr1 hb1 HC
  have p0 := R1.cell 0
  have p1 := R1.cell 1
  have y0 := R1.frozen 0
  have y1 := R1.frozen 1
  simp only [List.getElem?_cons_zero, List.getElem?_cons_succ] at p0 p1
  go_wp2_with fail
  refine bodyPost_ret (v := .agg #[.int .i64 0, .slice a1 n1 c1]) (by simp [results, Tryz.results80, go_sem, p0, p1]) rfl (ans_of (unhide E) ((unhide F) _ _).1 ((unhide F) _ _).2)

/-- A store: what is held in slots stays. -/
theorem Z.same {P : Program} {ops : Array Oper} {Q : Exit → Act → World → Prop} {md : Region.Mode} {S : World → Prop} {z i : Nat} {oi : Oper} {fuel : Nat} {listed : Array Bool} {a : Act} {w w' : World} {rs : List Nat} (hi : ops[i]? = some oi)
    (hw : Region.wanted oi (yielded ops a.tmps) = true) (hrun : ∀ K : Act → World → Prop, Shut (K a w') → Oper.wp P oi a w K Q) (hS : i ≠ z → S w')
    (h : Z.any P md ops Q S z fuel (listed.setIfInBounds i true) a w') (hs : Z.All P md ops Q S z fuel listed a w rs) : Z.All P md ops Q S z fuel listed a w (i :: rs) := Z.run_cons hi hw hrun hS h hs
/-- What is left of steps behind the first lies where the slice of it begins. -/
theorem Pth.sliced_tail {w : World} {b' o cap' : Nat} {c : M.Cl} {cs : List M.Cl} (hrow' : Row w b' o (c :: cs)) (hcap' : cs.length + 1 ≤ cap') : ∃ o', Row w b' o' cs ∧ (1 < cap' → o' = o + 5) ∧ (cap' = 1 → o' = o) := by
  have h1 := hrow'.tail
  simp only [List.drop_succ_cons, List.drop_zero] at h1
  by_cases e : cap' = 1
  · have : cs = [] := List.length_eq_zero_iff.1 (by omega)
    subst this
    exact ⟨o, Row.none _ _ _, fun h => by omega, fun _ => rfl⟩
  · exact ⟨o + 5, h1, fun _ => rfl, fun h => absurd h e⟩

set_option maxRecDepth 100000 in
set_option maxHeartbeats 1000000 in
theorem setSteps_cons (c : M.Cl) (cs x : List M.Cl) (hst : Pth.Stp c) (ih : Hid (Pth.SetI cs x)) (hx : M.valueFault x = 0) : Pth.SetI (c :: cs) x := by
  intro v b off cap b' o cap' bx ox cx w hv hrow hb hcap hrow' hb' hcap' hc' hrowx hbx hcx
  have h0 := hrow' 0 (by simp)
  simp only [Nat.zero_mul, Nat.add_zero, List.getD_cons_zero] at h0
  rw [List.length_cons] at hcap' ⊢
  obtain ⟨o', hrt, ho1, ho2⟩ := Pth.sliced_tail hrow' hcap'
  have KEEP := hide (fun W (h : Below w.heap.size w W) => show W.cell? ⟨b', o, none⟩ = some (.int .i64 c.kind) ∧ W.cell? ⟨b', o + 1, none⟩ = some (.int .i64 c.num) ∧ W.cell? ⟨b', o + 2, none⟩ = some (.string c.text) ∧ W.cell? ⟨b', o + 3, none⟩ = some (.string c.key) ∧ W.cell? ⟨b', o + 4, none⟩ = some (.int .i64 c.n) from
    ⟨(h.cell hb').trans h0.1, (h.cell hb').trans h0.2.1, (h.cell hb').trans h0.2.2.1, (h.cell hb').trans h0.2.2.2.1, (h.cell hb').trans h0.2.2.2.2⟩)
  have L1 : (0 : Int) < ((cs.length + 1 : Nat) : Int) := by omega
  have L3 : (((cs.length + 1 : Nat) : Int) == 0) = false := by simp; omega
  have L4 : Hid ((((cs.length : Int) + 1) == 0) = false) := hide (by simp; omega)
  obtain ⟨W0, hW0⟩ : ∃ W0, W0 = w.alloc (.cells #[.int .i64 0, .slice none 0 0] 59) := ⟨_, rfl⟩
  have B0 : Below w.heap.size w W0 := by rw [hW0]; exact (Below.refl _ _).alloc (Nat.le_refl _) _
  have R0 : Own W0 w.heap.size 59 [.int .i64 0, .slice none 0 0] := by rw [hW0]; exact ⟨_, heap_alloc_new _ _, rfl⟩
  have D0 : Below w.heap.size w W0.drew := B0.drew
  obtain ⟨W1, hW1⟩ : ∃ W1, W1 = (W0.alloc (.cells #[.int .i64 c.kind, .int .i64 c.num, .string c.text, .string c.key, .int .i64 c.n] 111)).drew := ⟨_, rfl⟩
  have B1 : Below w.heap.size w W1 := by rw [hW1]; exact (B0.alloc B0.size _).drew
  have R1 : Own W1 w.heap.size 59 [.int .i64 0, .slice none 0 0] := by rw [hW1]; exact (R0.alloc _).drew
  have O1 : Own W1 W0.heap.size 111 [.int .i64 c.kind, .int .i64 c.num, .string c.text, .string c.key, .int .i64 c.n] := by rw [hW1]; exact Own.drew ⟨_, heap_alloc_new _ _, rfl⟩
  have q0 := O1.cell 0
  have q1 := O1.cell 1
  have q2 := O1.cell 2
  simp only [List.getElem?_cons_zero, List.getElem?_cons_succ] at q0 q1 q2
  have HM := hide (setMember_any cs x ih hx v c.text b off cap b' o' (cap' - 1) bx ox cx W1 hv hst.tx (hrow.below B1 hb) (Nat.lt_of_lt_of_le hb B1.size) hcap (hrt.below B1 hb') (Nat.lt_of_lt_of_le hb' B1.size) (by omega) (by omega) (hrowx.below B1 hbx) (Nat.lt_of_lt_of_le hbx B1.size) hcx)
  have HE := hide (setElement_any cs x ih hx v c.num b off cap b' o' (cap' - 1) bx ox cx W1 hv hst.lo hst.hi (hrow.below B1 hb) (Nat.lt_of_lt_of_le hb B1.size) hcap (hrt.below B1 hb') (Nat.lt_of_lt_of_le hb' B1.size) (by omega) (by omega) (hrowx.below B1 hbx) (Nat.lt_of_lt_of_le hbx B1.size) hcx)
  have E4 := hide (fun h => Pth.setS_4 (v := v) (c := c) (cs := cs) (x := x) h)
  have E3 := hide (fun h => Pth.setS_3 (v := v) (c := c) (cs := cs) (x := x) h)
  have hkd := hst.kd
  have HO1 := hide ho1
  have HO2 := hide ho2
  clear hst ih hx hv hrow hrow' hrowx hrt h0 O1 R0 ho1 ho2
  generalize hg0 : W0.heap.size = g0 at *
  have R1' := hide R1
  have r0 := R1.cell 0
  have r1 := R1.cell 1
  have y0 := R1.frozen 0
  have y1 := R1.frozen 1
  simp only [List.getElem?_cons_zero, List.getElem?_cons_succ] at r0 r1
  go_enter Tryz.func80, Tryz.ntmps80
  go_upto_region 3 with fail
  rw [← hW0, L4.out]
  clear hW0
  refine Z.region 7 (fun w' => Below w.heap.size w w') (by kernel_rfl) D0 (fun hHeld => ?_)
  refine Z.take (i := 0) (d := 15) (v := .slice (some ⟨b', o, none⟩) (cs.length + 1) cap') rfl rfl (by kernel_rfl) (by kernel_rfl) (by kernel_rfl) (by kernel_rfl) (fun _ _ _ h => h) (Or.inl ⟨by rfl, ?_⟩) hHeld ?_
  · intro w' hSw; go_simp
  simp only [Act.put, List.setIfInBounds_toArray, List.set_cons_zero, List.set_cons_succ]
  refine Z.take (i := 1) (d := 16) (v := .pointer (some ⟨b', o, none⟩)) rfl rfl (by kernel_rfl) (by kernel_rfl) (by kernel_rfl) (by kernel_rfl) (fun _ _ _ h => h) (Or.inl ⟨by rfl, ?_⟩) hHeld ?_
  · intro w' hSw; go_simp
  simp only [Act.put, List.setIfInBounds_toArray, List.set_cons_zero, List.set_cons_succ]
  refine Z.take (i := 2) (d := 17) (v := .agg #[.int .i64 c.kind, .int .i64 c.num, .string c.text, .string c.key, .int .i64 c.n]) rfl rfl (by kernel_rfl) (by kernel_rfl) (by kernel_rfl) (by kernel_rfl) (fun _ _ _ h => h) (Or.inl ⟨by rfl, ?_⟩) hHeld ?_
  · intro w' hSw; obtain ⟨f0, f1, f2, f3, f4⟩ := (unhide KEEP) w' hSw; go_simp
  simp only [Act.put, List.setIfInBounds_toArray, List.set_cons_zero, List.set_cons_succ]
  refine Z.take (i := 3) (d := 18) (v := .slice (some ⟨b', o, none⟩) (cs.length + 1) cap') rfl rfl (by kernel_rfl) (by kernel_rfl) (by kernel_rfl) (by kernel_rfl) (fun _ _ _ h => h) (Or.inl ⟨by rfl, ?_⟩) hHeld ?_
  · intro w' hSw; go_simp
  simp only [Act.put, List.setIfInBounds_toArray, List.set_cons_zero, List.set_cons_succ]
  refine Z.take (i := 4) (d := 19) (v := .slice (some ⟨b', o', none⟩) cs.length (cap' - 1)) rfl rfl (by kernel_rfl) (by kernel_rfl) (by kernel_rfl) (by kernel_rfl) (fun _ _ _ h => h) (Or.inl ⟨by rfl, ?_⟩) hHeld ?_
  · intro w' hSw; skip
    by_cases e : cap' = 1
    · have e2 := (unhide HO2) e
      have e3 : cs.length = 0 := by omega
      subst e2
      subst e
      rw [e3]
      go_simp
    · have e2 := (unhide HO1) (by omega)
      have e4 : 1 < cap' := by omega
      subst e2
      go_simp
      try omega
  simp only [Act.put, List.setIfInBounds_toArray, List.set_cons_zero, List.set_cons_succ]
  refine Z.ready (rs := [5]) (by kernel_rfl) (by simp) (Z.val_cons (i := 5) (d := 7) (v := .pointer (some ⟨g0, 0, none⟩)) (w' := (W0.drew).alloc (.cells #[.int .i64 0, .int .i64 0, .string ByteArray.empty, .string ByteArray.empty, .int .i64 0] 111)) rfl (by rfl) (fun K hK => ?_) (fun _ => D0.alloc D0.size _) ?_ Z.All.nil)
  · go_simp
    exact hK.out
  simp only [Act.put, List.setIfInBounds_toArray, List.set_cons_zero, List.set_cons_succ]
  refine Z.ready (rs := [6]) (by kernel_rfl) (by simp) (Z.same (i := 6) (w' := W1) rfl (by rfl) (fun K hK => ?_) (fun _ => B1) ?_ Z.All.nil)
  · go_simp
    rw [← hW1]
    exact hK.out
  clear hW1
  refine Z.ready (rs := [7]) (by kernel_rfl) (by simp) (Z.val_cons (i := 7) (d := 8) (v := .slice (some ⟨b', o', none⟩) cs.length (cap' - 1)) (w' := W1) rfl (by rfl) (fun K hK => ?_) (fun h => absurd rfl h) ?_ Z.All.nil)
  · go_simp
    exact hK.out
  simp only [Act.put, List.setIfInBounds_toArray, List.set_cons_zero, List.set_cons_succ]
  refine Z.done (by kernel_rfl) ?_ _
  clear hg0 D0
  have SZ : w.heap.size + 1 ≤ W1.heap.size := R1.lt
  rcases hkd with hk | hk
  · have E := hide ((unhide E4) hk)
    rw [hk] at q0
    clear E3 E4 hk HE R1
    generalize Pth.memOut v c.text cs x = R2 at *
    obtain ⟨rc, rl⟩ := R2
    go_wp2_with fail
    refine (unhide HM).mono ?_
    rintro e2 w2 ⟨s2, rfl, hr2, hb2⟩
    have R2 := (unhide R1').below hb2 (unhide R1').lt
    have F := hide (Pth.ret (hr2.mono SZ) (B1.trans (hb2.mono B1.size)))
    obtain ⟨a2, n2, c2, rfl⟩ := hr2.shape
    clear r0 r1 y0 y1 q0 q1 q2 hr2 hb2 HM
    have p0 := R2.cell 0
    have p1 := R2.cell 1
    have y0 := R2.frozen 0
    have y1 := R2.frozen 1
    simp only [List.getElem?_cons_zero, List.getElem?_cons_succ] at p0 p1
    go_wp2_with fail
    refine bodyPost_ret (v := .agg #[.int .i64 rc, .slice a2 n2 c2]) (by simp [results, Tryz.results80, go_sem, p0, p1]) rfl (ans_of (unhide E) ((unhide F) _ _).1 ((unhide F) _ _).2)
  · have E := hide ((unhide E3) (by omega))
    rw [hk] at q0
    clear E3 E4 hk HM R1
    generalize Pth.elOut v c.num cs x = R2 at *
    obtain ⟨rc, rl⟩ := R2
    go_wp2_with fail
    refine (unhide HE).mono ?_
    rintro e2 w2 ⟨s2, rfl, hr2, hb2⟩
    have R2 := (unhide R1').below hb2 (unhide R1').lt
    have F := hide (Pth.ret (hr2.mono SZ) (B1.trans (hb2.mono B1.size)))
    obtain ⟨a2, n2, c2, rfl⟩ := hr2.shape
    clear r0 r1 y0 y1 q0 q1 q2 hr2 hb2 HE
    have p0 := R2.cell 0
    have p1 := R2.cell 1
    have y0 := R2.frozen 0
    have y1 := R2.frozen 1
    simp only [List.getElem?_cons_zero, List.getElem?_cons_succ] at p0 p1
    go_wp2_with fail
    refine bodyPost_ret (v := .agg #[.int .i64 rc, .slice a2 n2 c2]) (by simp [results, Tryz.results80, go_sem, p0, p1]) rfl (ans_of (unhide E) ((unhide F) _ _).1 ((unhide F) _ _).2)
theorem setSteps_any (cs x : List M.Cl) (hx : M.valueFault x = 0) (hs : ∀ c ∈ cs, Pth.Stp c) : Pth.SetI cs x := by
  induction cs with
  | nil => exact setSteps_nil x hx
  | cons c cs ih => exact setSteps_cons c cs x (hs c (by simp)) (hide (ih (fun d hd => hs d (by simp [hd])))) hx
end Go.Proofs.YtcglddahphkcpaaGreatDoor

namespace Go.Proofs.YtcglddahphkcpaaGreatDoor
open Go.RowKit
set_option linter.unusedVariables false
set_option linter.unusedSimpArgs false

set_option maxRecDepth 100000 in
set_option maxHeartbeats 1000000 in
theorem l13Set_nil (x : List M.Cl) (hx : M.valueFault x = 0) : Pth.SetM [] x := by
  intro v b off cap pa cap' bx ox cx w hv hrow hb hcap hpl hcap' hc' hrowx hbx hcx
  have E := hide (show Pth.setS v [] x = (0, x) from rfl)
  have hxl := (Pth.lens hx).2
  obtain ⟨i0, hi, hz0, hz1, hz2⟩ := info_parts Tryz.info111
  obtain ⟨W0, hW0⟩ : ∃ W0, W0 = w.alloc (.cells #[.int .i64 0, .slice none 0 0] 59) := ⟨_, rfl⟩
  have B0 : Below w.heap.size w W0 := by rw [hW0]; exact (Below.refl _ _).alloc (Nat.le_refl _) _
  have R0 : Own W0 w.heap.size 59 [.int .i64 0, .slice none 0 0] := by rw [hW0]; exact ⟨_, heap_alloc_new _ _, rfl⟩
  have SZ : Hid (W0.heap.size = w.heap.size + 1) := hide (by rw [hW0]; simp)
  have hnews := hide (fun o => row_words ((hrowx.below B0 hbx).below ((Below.refl W0.heap.size W0).alloc (Nat.le_refl _) o) (by have := SZ.out; omega)))
  have hone := hide (flat_one x)
  have HFL := hide (flat_length x)
  have hoe := hide (owns_empty5 W0 111)
  have hb63 : 0 + x.length ≤ maxLen := by unfold maxLen; omega
  have hby : (0 + x.length) * 56 ≤ 140737488355328 := by omega
  have HR0 := hide R0
  clear hv hrow hpl hrowx hx R0
  rw [List.length_nil]
  go_enter Tryz.func35, Tryz.ntmps35
  go_upto_region 1 with fail
  rw [← hW0]
  clear hW0
  go_wp2_with (at_builtin; refine wpList_append_own _ rfl (.tmp 13) (.tmp 14) 24 rfl W0.heap.size 111 i0 _ 5 56 Tryz.underlying24 hi hz0 hz1 hz2 rfl (by decide) _ 0 [] rfl (unhide hoe) ⟨bx, ox, none⟩ x.length cx (flat x) rfl (unhide HFL) ((unhide hnews) _) (unhide hone) hb63 hby (by simp) ?_)
  intro sv w1 ho hg _
  have hB : Below W0.heap.size W0 w1 := ((Below.refl _ W0).alloc (Nat.le_refl _) _).grown hg (by simp) (fun q hq => by simp only [Value.ownBlock, Option.some.injEq] at hq; omega)
  have hr1 : Res w1 W0.heap.size sv x := res_of_owns (l := x) (by simpa using ho) (by omega)
  have R1 := (unhide HR0).below hB (unhide HR0).lt
  have F := hide (Pth.ret (hr1.mono (by have := SZ.out; omega)) (B0.trans (hB.mono B0.size)))
  obtain ⟨va, vn, vc, rfl⟩ := hr1.shape
  clear ho hg hB hr1 hnews hone HFL hoe hb63 hby
  have p0 := R1.cell 0
  have p1 := R1.cell 1
  have y0 := R1.frozen 0
  have y1 := R1.frozen 1
  simp only [List.getElem?_cons_zero, List.getElem?_cons_succ] at p0 p1
  go_wp2_with fail
  refine bodyPost_ret (v := .agg #[.int .i64 0, .slice va vn vc]) (by simp [results, Tryz.results35, go_sem, p0, p1]) rfl (ans_of (unhide E) ((unhide F) _ _).1 ((unhide F) _ _).2)

/-- What is left of the parts behind the first lies where the slice of it begins. -/
theorem Pth.pl_tail {w : World} {a : Option Addr} {cap' : Nat} {c : M.Cl} {cs : List M.Cl} (h : Pth.PL w a (c :: cs)) (hcap' : cs.length + 1 ≤ cap') : ∃ g o o' b off k, a = some ⟨g, o, none⟩ ∧ g < w.heap.size ∧ w.cell? ⟨g, o, none⟩ = some (.slice (some ⟨b, off, none⟩) 1 k) ∧ 1 ≤ k ∧ b < w.heap.size ∧ Row w b off [c] ∧ Pth.PL w (some ⟨g, o', none⟩) cs ∧ (1 < cap' → o' = o + 1) ∧ (cap' = 1 → o' = o) := by
  rcases h with h | ⟨g, o, rfl, h1, h2⟩
  · cases h
  obtain ⟨b, off, k, q1, q2, q3, q4⟩ := h2 0 (by simp)
  rw [List.getD_cons_zero] at q4
  by_cases e : cap' = 1
  · have : cs = [] := List.length_eq_zero_iff.1 (by omega)
    subst this
    exact ⟨g, o, o, b, off, k, rfl, h1, q1, q2, q3, q4, .inl rfl, fun h => by omega, fun _ => rfl⟩
  · refine ⟨g, o, o + 1, b, off, k, rfl, h1, q1, q2, q3, q4, .inr ⟨g, o + 1, rfl, h1, fun i hi => ?_⟩, fun _ => rfl, fun h => absurd h e⟩
    have := h2 (i + 1) (by simp; omega)
    rw [List.getD_cons_succ, show o + (i + 1) = o + 1 + i by omega] at this
    exact this

set_option maxRecDepth 100000 in
set_option maxHeartbeats 1000000 in
theorem l13Set_cons (c : M.Cl) (cs x : List M.Cl) (hst : Pth.Stp c) (ih : Hid (Pth.SetM cs x)) (hx : M.valueFault x = 0) : Pth.SetM (c :: cs) x := by
  intro v b off cap pa cap' bx ox cx w hv hrow hb hcap hpl hcap' hc' hrowx hbx hcx
  rw [List.length_cons] at hcap' ⊢
  have hlen := (Pth.lens hv).2
  have hts := textOk_size hst.tx
  obtain ⟨pg, po, po', b1, o1, k1, rfl, hpg, hf, hk1, hb1, hr1, hpt, ho1, ho2⟩ := Pth.pl_tail hpl hcap'
  have h0 := hr1 0 (by simp)
  simp only [Nat.zero_mul, Nat.add_zero, List.getD_cons_zero] at h0
  have L1 : (0 : Int) < ((cs.length + 1 : Nat) : Int) := by omega
  have L3 : (((cs.length + 1 : Nat) : Int) == 0) = false := by simp; omega
  have L4 : Hid ((((cs.length : Int) + 1) == 0) = false) := hide (by simp; omega)
  obtain ⟨W0, hW0⟩ : ∃ W0, W0 = w.alloc (.cells #[.int .i64 0, .slice none 0 0] 59) := ⟨_, rfl⟩
  have B0 : Below w.heap.size w W0 := by rw [hW0]; exact (Below.refl _ _).alloc (Nat.le_refl _) _
  have R0 : Own W0 w.heap.size 59 [.int .i64 0, .slice none 0 0] := by rw [hW0]; exact ⟨_, heap_alloc_new _ _, rfl⟩
  have ff := (B0.cell hpg).trans hf
  obtain ⟨f0, f1, f2, f3, f4⟩ := (show W0.cell? ⟨b1, o1, none⟩ = some (.int .i64 c.kind) ∧ W0.cell? ⟨b1, o1 + 1, none⟩ = some (.int .i64 c.num) ∧ W0.cell? ⟨b1, o1 + 2, none⟩ = some (.string c.text) ∧ W0.cell? ⟨b1, o1 + 3, none⟩ = some (.string c.key) ∧ W0.cell? ⟨b1, o1 + 4, none⟩ = some (.int .i64 c.n) from
    ⟨(B0.cell hb1).trans h0.1, (B0.cell hb1).trans h0.2.1, (B0.cell hb1).trans h0.2.2.1, (B0.cell hb1).trans h0.2.2.2.1, (B0.cell hb1).trans h0.2.2.2.2⟩)
  obtain ⟨W1, hW1⟩ : ∃ W1, W1 = W0.alloc (.cells #[.int .i64 c.kind, .int .i64 c.num, .string c.text, .string c.key, .int .i64 c.n] 111) := ⟨_, rfl⟩
  have B1 : Below w.heap.size w W1 := by rw [hW1]; exact B0.alloc B0.size _
  have R1 : Own W1 w.heap.size 59 [.int .i64 0, .slice none 0 0] := by rw [hW1]; exact R0.alloc _
  have O1 : Own W1 W0.heap.size 111 [.int .i64 c.kind, .int .i64 c.num, .string c.text, .string c.key, .int .i64 c.n] := by rw [hW1]; exact ⟨_, heap_alloc_new _ _, rfl⟩
  have HE := hide (fun W (h : Below w.heap.size w W) => l13SetIndex_any cs x ih hx v c.num b off cap (some ⟨pg, po', none⟩) (cap' - 1) bx ox cx W hv hst.lo hst.hi (hrow.below h hb) (Nat.lt_of_lt_of_le hb h.size) hcap (hpt.below (B := 0) h) (by omega) (by omega) (hrowx.below h hbx) (Nat.lt_of_lt_of_le hbx h.size) hcx)
  have HIH := hide (fun u b2 c2 W (h : Below w.heap.size w W) hu r hb2 hc2 => ih.out u b2 0 c2 (some ⟨pg, po', none⟩) (cap' - 1) bx ox cx W hu r hb2 hc2 (hpt.below (B := 0) h) (by omega) (by omega) (hrowx.below h hbx) (Nat.lt_of_lt_of_le hbx h.size) hcx)
  have HGK := hide (fun W (h : Below w.heap.size w W) => l3Get_any v b off cap c.text W hv (hrow.below h hb) (Nat.lt_of_lt_of_le hb h.size) hcap (Pth.oks hv))
  have HSK := hide (fun W (h : Below w.heap.size w W) u b2 c2 (hu : M.valueFault u = 0) (r : Row W b2 0 u) (hb2 : b2 < W.heap.size) (hc2 : u.length ≤ c2) => specSetKey_any v b off cap c.text u b2 0 c2 W (hrow.below h hb) (Nat.lt_of_lt_of_le hb h.size) (by omega) hcap (Pth.oks hv) r hb2 (by have := (Pth.lens hu).2; omega) hc2 (Pth.oks hu) (by omega))
  have HGD := hide (Pth.get_gd hv c.text)
  have SGD := hide (fun u (hu : M.valueFault u = 0) => Pth.setS_gd hu hx cs)
  have E4 := hide (fun h => Pth.setS_4 (v := v) (c := c) (cs := cs) (x := x) h)
  have E3 := hide (fun h => Pth.setS_3 (v := v) (c := c) (cs := cs) (x := x) h)
  have hkd := hst.kd
  have HO1 := hide ho1
  have HO2 := hide ho2
  clear hst ih hx hv hrow hpl hrowx hpt h0 hr1 hf R0 ho1 ho2
  have q0 := O1.cell 0
  have q1 := O1.cell 1
  have q2 := O1.cell 2
  simp only [List.getElem?_cons_zero, List.getElem?_cons_succ] at q0 q1 q2
  have hO1 := hide O1
  have hR1 := hide R1
  have SZ : w.heap.size + 1 ≤ W1.heap.size := R1.lt
  clear O1
  have p0 := R1.cell 0
  have p1 := R1.cell 1
  have y0 := R1.frozen 0
  have y1 := R1.frozen 1
  simp only [List.getElem?_cons_zero, List.getElem?_cons_succ] at p0 p1
  clear R1
  rcases hkd with hk | hk
  · have E := hide ((unhide E4) hk)
    rw [hk] at q0 hW1 f0 hO1
    clear E3 E4 HE hk
    generalize hg0 : W0.heap.size = g0 at *
    go_enter Tryz.func35, Tryz.ntmps35
    go_upto_region 3 with fail
    rw [← hW0, L4.out]
    clear hW0
    go_upto_region 4 with fail
    rw [← hW1]
    clear hW1 hg0 f0 f1 f2 f3 f4 ff B0
    generalize hR : getOut v c.text = R at *
    have HRR := hide hR
    clear hR
    obtain ⟨rc, rl⟩ := R
    go_wp2_with fail
    refine ((unhide HGK) _ B1).mono ?_
    rintro e2 w2 ⟨s2, rfl, hr2, hb2⟩
    obtain ⟨a2, n2, c2, rfl⟩ := hr2.shape
    obtain ⟨W2, hW2⟩ : ∃ W2, W2 = w2.alloc (.cells #[.int .i64 rc, .slice a2 n2 c2] 59) := ⟨_, rfl⟩
    have O2 : Own W2 w2.heap.size 59 [.int .i64 rc, .slice a2 n2 c2] := by rw [hW2]; exact ⟨_, heap_alloc_new _ _, rfl⟩
    have K2 : Own W2 g0 111 [.int .i64 4, .int .i64 c.num, .string c.text, .string c.key, .int .i64 c.n] := by rw [hW2]; exact ((unhide hO1).below hb2 (unhide hO1).lt).alloc _
    have R2 : Own W2 w.heap.size 59 [.int .i64 0, .slice none 0 0] := by rw [hW2]; exact ((unhide hR1).below hb2 (unhide hR1).lt).alloc _
    have V2 : Res W2 (w.heap.size + 1) (.slice a2 n2 c2) rl := by rw [hW2]; exact (hr2.alloc _).mono SZ
    have C2 : Below w.heap.size w W2 := by rw [hW2]; exact (B1.trans (hb2.mono B1.size)).alloc (by have := B1.size; have := hb2.size; omega) _
    clear p0 p1 y0 y1 q0 q1 q2 hr2 hb2 HGK hO1 hR1 B1
    generalize hg2 : w2.heap.size = g2 at *
    have p0 := R2.cell 0
    have p1 := R2.cell 1
    have y0 := R2.frozen 0
    have y1 := R2.frozen 1
    simp only [List.getElem?_cons_zero, List.getElem?_cons_succ] at p0 p1
    have u0 := O2.cell 0
    have u1 := O2.cell 1
    simp only [List.getElem?_cons_zero, List.getElem?_cons_succ] at u0 u1
    go_upto_region 7 with fail
    rw [← hW2]
    clear hW2 hg2
    by_cases hz : rc = 0
    · subst hz
      have hrl := (unhide HGD).ok rfl
      obtain ⟨b3, c3', hsh, hc3, hl3, hlt3, hrw3⟩ := V2.rowedQ (Pth.val_ne hrl)
      simp only [Value.slice.injEq] at hsh
      obtain ⟨rfl, rfl, rfl⟩ := hsh
      have HC := hide (fun W (hW : Below W2.heap.size W2 W) => (unhide HIH) rl b3 c2 W (C2.trans (hW.mono C2.size)) hrl (hrw3.below hW hlt3) (Nat.lt_of_lt_of_le hlt3 hW.size) hc3)
      have SG := hide ((unhide SGD) rl hrl)
      have EIN := hide (fun R h2 hz => Pth.mem_in (cs := cs) (x := x) (R := R) (unhide HRR) h2 hz)
      have EOK := hide (fun l2 h2 => Pth.mem_ok (cs := cs) (x := x) (l2 := l2) (unhide HRR) h2)
      clear V2 hrw3 HIH SGD HRR HGD
      generalize hR2 : Pth.setS rl cs x = RR at *
      clear hR2
      obtain ⟨rc2, rl2⟩ := RR
      have KEEP := hide (fun W (hW : Below W2.heap.size W2 W) => (hW.cell O2.lt (p := ⟨g2, 1, none⟩)).trans u1)
      have BR := Below.refl W2.heap.size W2
      have hO2 := hide O2
      have hK2 := hide K2
      have hR2 := hide R2
      have SZ2 : w.heap.size + 1 ≤ W2.heap.size := R2.lt
      clear O2 K2 R2
      go_upto_region 9 with fail
      clear u0 u1
      refine Z.region 7 (fun w' => Below W2.heap.size W2 w') (by kernel_rfl) BR.drew (fun hHeld => ?_)
      refine Z.take (i := 0) (d := 40) (v := .pointer (some ⟨g2, 1, none⟩)) rfl rfl (by kernel_rfl) (by kernel_rfl) (by kernel_rfl) (by kernel_rfl) (fun _ _ _ h => h) (Or.inl ⟨by rfl, ?_⟩) hHeld ?_
      · intro w' hSw; go_simp
      simp only [Act.put, List.setIfInBounds_toArray, List.set_cons_zero, List.set_cons_succ]
      refine Z.take (i := 1) (d := 41) (v := .slice (some ⟨b3, 0, none⟩) rl.length c2) rfl rfl (by kernel_rfl) (by kernel_rfl) (by kernel_rfl) (by kernel_rfl) (fun _ _ _ h => h) (Or.inl ⟨by rfl, ?_⟩) hHeld ?_
      · intro w' hSw; have g1 := (unhide KEEP) _ hSw; go_simp
      simp only [Act.put, List.setIfInBounds_toArray, List.set_cons_zero, List.set_cons_succ]
      refine Z.take (i := 2) (d := 42) (v := .slice (some ⟨pg, po, none⟩) (cs.length + 1) cap') rfl rfl (by kernel_rfl) (by kernel_rfl) (by kernel_rfl) (by kernel_rfl) (fun _ _ _ h => h) (Or.inl ⟨by rfl, ?_⟩) hHeld ?_
      · intro w' hSw; go_simp
      simp only [Act.put, List.setIfInBounds_toArray, List.set_cons_zero, List.set_cons_succ]
      refine Z.take (i := 3) (d := 43) (v := .slice (some ⟨pg, po', none⟩) cs.length (cap' - 1)) rfl rfl (by kernel_rfl) (by kernel_rfl) (by kernel_rfl) (by kernel_rfl) (fun _ _ _ h => h) (Or.inl ⟨by rfl, ?_⟩) hHeld ?_
      · intro w' hSw; skip
        by_cases e : cap' = 1
        · have e2 := (unhide HO2) e
          have e3 : cs.length = 0 := by omega
          subst e2
          subst e
          rw [e3]
          go_simp
        · have e2 := (unhide HO1) (by omega)
          have e4 : 1 < cap' := by omega
          subst e2
          go_simp
          try omega
      simp only [Act.put, List.setIfInBounds_toArray, List.set_cons_zero, List.set_cons_succ]
      refine Z.take (i := 4) (d := 44) (v := .slice (some ⟨bx, ox, none⟩) x.length cx) rfl rfl (by kernel_rfl) (by kernel_rfl) (by kernel_rfl) (by kernel_rfl) (fun _ _ _ h => h) (Or.inl ⟨by rfl, ?_⟩) hHeld ?_
      · intro w' hSw; go_simp
      simp only [Act.put, List.setIfInBounds_toArray, List.set_cons_zero, List.set_cons_succ]
      refine Z.ready (rs := [5, 6]) (by kernel_rfl) (by simp) (Z.call_cons (i := 5) rfl (by rfl) (fun K hK => ?_) (Z.val_cons (i := 6) (d := 9) (v := .pointer (some ⟨W2.heap.size, 0, none⟩)) (w' := (W2.drew).alloc (.cells #[.int .i64 0, .slice none 0 0] 59)) rfl (by rfl) (fun K hK => ?_) (fun _ => BR.drew.alloc (Nat.le_refl _) _) ?_ Z.All.nil))
      · go_simp
        refine ((unhide HC) _ BR.drew).mono ?_
        rintro e3 w3 ⟨s3, rfl, hr3, hb3⟩
        have hb3' : Below W2.heap.size W2 w3 := BR.drew.trans (hb3.mono (Nat.le_refl _))
        obtain ⟨a3, n3, c3, rfl⟩ := hr3.shape
        have hr3' : Res w3 W2.heap.size (.slice a3 n3 c3) rl2 := hr3
        go_simp
        refine hK.out _ _ (fun _ => hb3') ?_
        clear hK K
        try simp only [Act.put, List.setIfInBounds_toArray, List.set_cons_zero, List.set_cons_succ]
        obtain ⟨W3, hW3⟩ : ∃ W3, W3 = w3.alloc (.cells #[.int .i64 rc2, .slice a3 n3 c3] 59) := ⟨_, rfl⟩
        have O3 : Own W3 w3.heap.size 59 [.int .i64 rc2, .slice a3 n3 c3] := by rw [hW3]; exact ⟨_, heap_alloc_new _ _, rfl⟩
        have K3 : Own W3 g0 111 [.int .i64 4, .int .i64 c.num, .string c.text, .string c.key, .int .i64 c.n] := by rw [hW3]; exact ((unhide hK2).below hb3' (unhide hK2).lt).alloc _
        have R3 : Own W3 w.heap.size 59 [.int .i64 0, .slice none 0 0] := by rw [hW3]; exact ((unhide hR2).below hb3' (unhide hR2).lt).alloc _
        have V3 : Res W3 (w.heap.size + 1) (.slice a3 n3 c3) rl2 := by rw [hW3]; exact (hr3'.alloc _).mono SZ2
        have C3 : Below w.heap.size w W3 := by rw [hW3]; exact (C2.trans (hb3'.mono C2.size)).alloc (by have := C2.size; have := hb3'.size; omega) _
        refine Z.ready (rs := [6]) (by kernel_rfl) (by simp) (Z.val_cons (i := 6) (d := 9) (v := .pointer (some ⟨w3.heap.size, 0, none⟩)) (w' := w3.alloc (.cells #[.int .i64 0, .slice none 0 0] 59)) rfl (by rfl) (fun K hK => ?_) (fun _ => hb3'.alloc (by have := hb3'.size; omega) _) ?_ Z.All.nil)
        · go_simp
          exact hK.out
        simp only [Act.put, List.setIfInBounds_toArray, List.set_cons_zero, List.set_cons_succ]
        refine Z.ready (rs := [7]) (by kernel_rfl) (by simp) (Z.same (i := 7) (w' := W3) rfl (by rfl) (fun K hK => ?_) (fun h => absurd rfl h) ?_ Z.All.nil)
        · go_simp
          rw [← hW3]
          exact hK.out
        refine Z.done (by kernel_rfl) ?_ _
        clear hW3 hr3 hr3' hb3 hb3' HC KEEP hO2 hK2 hR2 BR hHeld
        generalize w3.heap.size = g3 at *
        clear p0 p1 y0 y1
        have p0 := R3.cell 0
        have p1 := R3.cell 1
        have y0 := R3.frozen 0
        have y1 := R3.frozen 1
        simp only [List.getElem?_cons_zero, List.getElem?_cons_succ] at p0 p1
        have u0 := O3.cell 0
        have u1 := O3.cell 1
        have t2 := K3.cell 2
        simp only [List.getElem?_cons_zero, List.getElem?_cons_succ] at u0 u1 t2
        by_cases hz2 : rc2 = 0
        · subst hz2
          have hr0 := (unhide SG).ok rfl
          obtain ⟨b4, c4', hsh, hc4, hl4, hlt4, hrw4⟩ := V3.rowedQ (Pth.val_ne hr0)
          simp only [Value.slice.injEq] at hsh
          obtain ⟨rfl, rfl, rfl⟩ := hsh
          have HC := hide ((unhide HSK) W3 C3 rl2 b4 c3 hr0 hrw4 hlt4 hc4)
          have EE := hide ((unhide E).trans ((unhide EOK) rl2 rfl))
          have hR3 := hide R3
          have SZ3 : w.heap.size + 1 ≤ W3.heap.size := R3.lt
          clear V3 hrw4 SG EIN EOK HSK O3 R3 K3
          generalize setOut v c.text rl2 = R4 at *
          obtain ⟨rc4, rl4⟩ := R4
          go_wp2_with fail
          refine (unhide HC).mono ?_
          rintro e4 w4 ⟨s4, rfl, hr4, hb4⟩
          have R4 := (unhide hR3).below hb4 (unhide hR3).lt
          have F := hide (Pth.ret (hr4.mono SZ3) (C3.trans (hb4.mono C3.size)))
          obtain ⟨a4, n4, c4, rfl⟩ := hr4.shape
          clear p0 p1 y0 y1 u0 u1 t2 hr4 hb4 HC
          have p0 := R4.cell 0
          have p1 := R4.cell 1
          have y0 := R4.frozen 0
          have y1 := R4.frozen 1
          simp only [List.getElem?_cons_zero, List.getElem?_cons_succ] at p0 p1
          go_wp2_with fail
          refine bodyPost_ret (v := .agg #[.int .i64 rc4, .slice a4 n4 c4]) (by simp [results, Tryz.results35, go_sem, p0, p1]) rfl (ans_of (unhide EE) ((unhide F) _ _).1 ((unhide F) _ _).2)
        · have EE := hide ((unhide E).trans ((unhide EIN) _ rfl hz2))
          have F := hide (Pth.ret V3 C3)
          have hz' : (rc2 == 0) = false := by simp [hz2]
          clear V3 SG EIN EOK HSK O3 R3 K3 hz2
          go_wp2_with fail
          refine bodyPost_ret (v := .agg #[.int .i64 rc2, .slice a3 n3 c3]) (by simp [results, Tryz.results35, go_sem, p0, p1]) rfl (ans_of (unhide EE) ((unhide F) _ _).1 ((unhide F) _ _).2)
      · go_simp
        exact hK.out
      · simp only [Act.put, List.setIfInBounds_toArray, List.set_cons_zero, List.set_cons_succ]
        obtain ⟨Wz, hWz⟩ : ∃ Wz, Wz = (W2.drew).alloc (.cells #[.int .i64 0, .slice none 0 0] 59) := ⟨_, rfl⟩
        have BZ : Below W2.heap.size W2 Wz := by rw [hWz]; exact BR.drew.alloc (Nat.le_refl _) _
        have OZ : Own Wz W2.heap.size 59 [.int .i64 0, .slice none 0 0] := by rw [hWz]; exact ⟨_, heap_alloc_new _ _, rfl⟩
        rw [← hWz]
        clear hWz
        refine Z.ready (rs := [5]) (by kernel_rfl) (by simp) (Z.call_cons (i := 5) rfl (by rfl) (fun K hK => ?_) Z.All.nil)
        go_simp
        refine ((unhide HC) _ BZ).mono ?_
        rintro e3 w3 ⟨s3, rfl, hr3, hb3⟩
        have hb3' : Below W2.heap.size W2 w3 := BZ.trans (hb3.mono BZ.size)
        obtain ⟨a3, n3, c3, rfl⟩ := hr3.shape
        go_simp
        refine hK.out _ _ (fun _ => hb3') ?_
        clear hK K
        try simp only [Act.put, List.setIfInBounds_toArray, List.set_cons_zero, List.set_cons_succ]
        have OZ3 := OZ.below hb3 OZ.lt
        generalize hg3 : W2.heap.size = g3 at *
        have z0 := OZ3.cell 0
        have z1 := OZ3.cell 1
        have s0 := OZ3.frozen 0
        have s1 := OZ3.frozen 1
        simp only [List.getElem?_cons_zero, List.getElem?_cons_succ] at z0 z1
        obtain ⟨W3, hW3⟩ : ∃ W3, W3 = (w3.setCell ⟨g3, 0, none⟩ (.int .i64 rc2)).setCell ⟨g3, 1, none⟩ (.slice a3 n3 c3) := ⟨_, rfl⟩
        have O3 : Own W3 g3 59 [.int .i64 rc2, .slice a3 n3 c3] := by rw [hW3]; simpa using (OZ3.set 0 (.int .i64 rc2)).set 1 (.slice a3 n3 c3)
        have K3 : Own W3 g0 111 [.int .i64 4, .int .i64 c.num, .string c.text, .string c.key, .int .i64 c.n] := by
          have hl := (unhide hK2).lt
          rw [hg3] at hl
          rw [hW3]; exact (((unhide hK2).below hb3' hl).setOther _ _ (by show g0 ≠ g3; omega)).setOther _ _ (by show g0 ≠ g3; omega)
        have R3 : Own W3 w.heap.size 59 [.int .i64 0, .slice none 0 0] := by
          have hl := (unhide hR2).lt
          rw [hg3] at hl
          rw [hW3]; exact (((unhide hR2).below hb3' hl).setOther _ _ (by show w.heap.size ≠ g3; omega)).setOther _ _ (by show w.heap.size ≠ g3; omega)
        have hzl := OZ.lt
        have V3 : Res W3 (w.heap.size + 1) (.slice a3 n3 c3) rl2 := by
          have hne : ∀ b, (Value.slice a3 n3 c3).ownBlock = some b → b ≠ g3 := fun b hq => by have := hr3.base b hq; omega
          rw [hW3]; exact ((hr3.mono (by omega)).setOther _ _ hne).setOther _ _ hne
        have C3 : Below w.heap.size w W3 := by
          have hcs := C2.size
          rw [hg3] at hcs
          rw [hW3]; exact ((C2.trans (hb3'.mono hcs)).setCell (by show w.heap.size ≤ g3; omega) _).setCell (by show w.heap.size ≤ g3; omega) _
        refine Z.ready (rs := [7]) (by kernel_rfl) (by simp) (Z.same (i := 7) (w' := W3) rfl (by rfl) (fun K hK => ?_) (fun h => absurd rfl h) ?_ Z.All.nil)
        · go_simp
          rw [← hW3]
          exact hK.out
        refine Z.done (by kernel_rfl) ?_ _
        clear hW3 hr3 hb3 hb3' HC KEEP hO2 hK2 hR2 BR hHeld OZ OZ3 z0 z1 s0 s1 BZ hzl
        clear hg3
        clear p0 p1 y0 y1
        have p0 := R3.cell 0
        have p1 := R3.cell 1
        have y0 := R3.frozen 0
        have y1 := R3.frozen 1
        simp only [List.getElem?_cons_zero, List.getElem?_cons_succ] at p0 p1
        have u0 := O3.cell 0
        have u1 := O3.cell 1
        have t2 := K3.cell 2
        simp only [List.getElem?_cons_zero, List.getElem?_cons_succ] at u0 u1 t2
        by_cases hz2 : rc2 = 0
        · subst hz2
          have hr0 := (unhide SG).ok rfl
          obtain ⟨b4, c4', hsh, hc4, hl4, hlt4, hrw4⟩ := V3.rowedQ (Pth.val_ne hr0)
          simp only [Value.slice.injEq] at hsh
          obtain ⟨rfl, rfl, rfl⟩ := hsh
          have HC := hide ((unhide HSK) W3 C3 rl2 b4 c3 hr0 hrw4 hlt4 hc4)
          have EE := hide ((unhide E).trans ((unhide EOK) rl2 rfl))
          have hR3 := hide R3
          have SZ3 : w.heap.size + 1 ≤ W3.heap.size := R3.lt
          clear V3 hrw4 SG EIN EOK HSK O3 R3 K3
          generalize setOut v c.text rl2 = R4 at *
          obtain ⟨rc4, rl4⟩ := R4
          go_wp2_with fail
          refine (unhide HC).mono ?_
          rintro e4 w4 ⟨s4, rfl, hr4, hb4⟩
          have R4 := (unhide hR3).below hb4 (unhide hR3).lt
          have F := hide (Pth.ret (hr4.mono SZ3) (C3.trans (hb4.mono C3.size)))
          obtain ⟨a4, n4, c4, rfl⟩ := hr4.shape
          clear p0 p1 y0 y1 u0 u1 t2 hr4 hb4 HC
          have p0 := R4.cell 0
          have p1 := R4.cell 1
          have y0 := R4.frozen 0
          have y1 := R4.frozen 1
          simp only [List.getElem?_cons_zero, List.getElem?_cons_succ] at p0 p1
          go_wp2_with fail
          refine bodyPost_ret (v := .agg #[.int .i64 rc4, .slice a4 n4 c4]) (by simp [results, Tryz.results35, go_sem, p0, p1]) rfl (ans_of (unhide EE) ((unhide F) _ _).1 ((unhide F) _ _).2)
        · have EE := hide ((unhide E).trans ((unhide EIN) _ rfl hz2))
          have F := hide (Pth.ret V3 C3)
          have hz' : (rc2 == 0) = false := by simp [hz2]
          clear V3 SG EIN EOK HSK O3 R3 K3 hz2
          go_wp2_with fail
          refine bodyPost_ret (v := .agg #[.int .i64 rc2, .slice a3 n3 c3]) (by simp [results, Tryz.results35, go_sem, p0, p1]) rfl (ans_of (unhide EE) ((unhide F) _ _).1 ((unhide F) _ _).2)
    · have EE := hide ((unhide E).trans (Pth.mem_no (cs := cs) (x := x) (unhide HRR) hz))
      have F := hide (Pth.ret V2 C2)
      have hz' : (rc == 0) = false := by simp [hz]
      clear V2 HIH SGD HRR HGD O2 R2 K2 hz
      go_wp2_with fail
      refine bodyPost_ret (v := .agg #[.int .i64 rc, .slice a2 n2 c2]) (by simp [results, Tryz.results35, go_sem, p0, p1]) rfl (ans_of (unhide EE) ((unhide F) _ _).1 ((unhide F) _ _).2)
  · have E := hide ((unhide E3) (by omega))
    rw [hk] at q0 hW1 f0
    clear E3 E4 HGK HSK HIH HGD SGD hk hO1
    generalize hg0 : W0.heap.size = g0 at *
    go_enter Tryz.func35, Tryz.ntmps35
    go_upto_region 3 with fail
    rw [← hW0, L4.out]
    clear hW0
    go_upto_region 4 with fail
    rw [← hW1]
    generalize Pth.elOut v c.num cs x = RR at *
    obtain ⟨rc, rl⟩ := RR
    have KEEP := hide (fun W (hW : Below W1.heap.size W1 W) => (hW.cell (show g0 < W1.heap.size by rw [hW1]; simp; omega) (p := ⟨g0, 1, none⟩)).trans q1)
    clear hW1 hg0 f0 f1 f2 f3 f4 ff B0
    have BR := Below.refl W1.heap.size W1
    go_upto_region 5 with fail
    refine Z.region 7 (fun w' => Below W1.heap.size W1 w') (by kernel_rfl) BR.drew (fun hHeld => ?_)
    refine Z.take (i := 0) (d := 25) (v := .slice (some ⟨b, off, none⟩) v.length cap) rfl rfl (by kernel_rfl) (by kernel_rfl) (by kernel_rfl) (by kernel_rfl) (fun _ _ _ h => h) (Or.inl ⟨by rfl, ?_⟩) hHeld ?_
    · intro w' hSw; go_simp
    simp only [Act.put, List.setIfInBounds_toArray, List.set_cons_zero, List.set_cons_succ]
    refine Z.take (i := 1) (d := 26) (v := .pointer (some ⟨g0, 1, none⟩)) rfl rfl (by kernel_rfl) (by kernel_rfl) (by kernel_rfl) (by kernel_rfl) (fun _ _ _ h => h) (Or.inl ⟨by rfl, ?_⟩) hHeld ?_
    · intro w' hSw; go_simp
    simp only [Act.put, List.setIfInBounds_toArray, List.set_cons_zero, List.set_cons_succ]
    refine Z.take (i := 2) (d := 27) (v := .int .i64 c.num) rfl rfl (by kernel_rfl) (by kernel_rfl) (by kernel_rfl) (by kernel_rfl) (fun _ _ _ h => h) (Or.inl ⟨by rfl, ?_⟩) hHeld ?_
    · intro w' hSw; have g1 := (unhide KEEP) _ hSw; go_simp
    simp only [Act.put, List.setIfInBounds_toArray, List.set_cons_zero, List.set_cons_succ]
    refine Z.take (i := 3) (d := 28) (v := .slice (some ⟨pg, po, none⟩) (cs.length + 1) cap') rfl rfl (by kernel_rfl) (by kernel_rfl) (by kernel_rfl) (by kernel_rfl) (fun _ _ _ h => h) (Or.inl ⟨by rfl, ?_⟩) hHeld ?_
    · intro w' hSw; go_simp
    simp only [Act.put, List.setIfInBounds_toArray, List.set_cons_zero, List.set_cons_succ]
    refine Z.take (i := 4) (d := 29) (v := .slice (some ⟨pg, po', none⟩) cs.length (cap' - 1)) rfl rfl (by kernel_rfl) (by kernel_rfl) (by kernel_rfl) (by kernel_rfl) (fun _ _ _ h => h) (Or.inl ⟨by rfl, ?_⟩) hHeld ?_
    · intro w' hSw; skip
      by_cases e : cap' = 1
      · have e2 := (unhide HO2) e
        have e3 : cs.length = 0 := by omega
        subst e2
        subst e
        rw [e3]
        go_simp
      · have e2 := (unhide HO1) (by omega)
        have e4 : 1 < cap' := by omega
        subst e2
        go_simp
        try omega
    simp only [Act.put, List.setIfInBounds_toArray, List.set_cons_zero, List.set_cons_succ]
    refine Z.take (i := 5) (d := 30) (v := .slice (some ⟨bx, ox, none⟩) x.length cx) rfl rfl (by kernel_rfl) (by kernel_rfl) (by kernel_rfl) (by kernel_rfl) (fun _ _ _ h => h) (Or.inl ⟨by rfl, ?_⟩) hHeld ?_
    · intro w' hSw; go_simp
    simp only [Act.put, List.setIfInBounds_toArray, List.set_cons_zero, List.set_cons_succ]
    refine Z.only (i := 6) (d := 31) rfl rfl (by kernel_rfl) (by rfl) (fun K hK => ?_)
    go_simp
    refine ((unhide HE) _ (B1.trans (BR.drew.mono B1.size))).mono ?_
    rintro e2 w2 ⟨s2, rfl, hr2, hb2⟩
    have hb2' : Below W1.heap.size W1 w2 := BR.drew.trans (hb2.mono (Nat.le_refl _))
    have hr2' : Res w2 W1.heap.size s2 rl := hr2
    go_simp
    refine hK.out (.agg #[.int .i64 rc, s2]) _ hb2' ?_
    clear hK K
    simp only [Act.put, List.setIfInBounds_toArray, List.set_cons_zero, List.set_cons_succ]
    have R2 := (unhide hR1).below hb2' (unhide hR1).lt
    have F := hide (Pth.ret (hr2'.mono SZ) (B1.trans (hb2'.mono B1.size)))
    obtain ⟨a2, n2, c2, rfl⟩ := hr2'.shape
    clear p0 p1 y0 y1 q0 q1 q2 hr2 hb2 hr2' hb2' HE
    have p0 := R2.cell 0
    have p1 := R2.cell 1
    have y0 := R2.frozen 0
    have y1 := R2.frozen 1
    simp only [List.getElem?_cons_zero, List.getElem?_cons_succ] at p0 p1
    refine Z.last_at (w' := (w2.setCell ⟨w.heap.size, 0, none⟩ (.int .i64 rc)).setCell ⟨w.heap.size, 1, none⟩ (.slice a2 n2 c2)) rfl (by kernel_rfl) (by rfl) (fun K hK => ?_) ?_
    · go_simp
      exact hK.out
    refine Z.done (by kernel_rfl) ?_ _
    have R3 := (R2.set 0 (.int .i64 rc)).set 1 (.slice a2 n2 c2)
    have FF := (unhide F) (.int .i64 rc) (.slice a2 n2 c2)
    clear p0 p1 y0 y1 R2 F
    generalize (w2.setCell ⟨w.heap.size, 0, none⟩ (.int .i64 rc)).setCell ⟨w.heap.size, 1, none⟩ (.slice a2 n2 c2) = W3 at *
    have p0 := R3.cell 0
    have p1 := R3.cell 1
    simp only [List.set_cons_zero, List.set_cons_succ, List.getElem?_cons_zero, List.getElem?_cons_succ] at p0 p1
    go_wp2_with fail
    refine bodyPost_ret (v := .agg #[.int .i64 rc, .slice a2 n2 c2]) (by simp [results, Tryz.results35, go_sem, p0, p1]) rfl (ans_of (unhide E) FF.1 FF.2)
theorem l13Set_any (cs x : List M.Cl) (hx : M.valueFault x = 0) (hs : ∀ c ∈ cs, Pth.Stp c) : Pth.SetM cs x := by
  induction cs with
  | nil => exact l13Set_nil x hx
  | cons c cs ih => exact l13Set_cons c cs x (hs c (by simp)) (hide (ih (fun d hd => hs d (by simp [hd])))) hx
end Go.Proofs.YtcglddahphkcpaaGreatDoor
