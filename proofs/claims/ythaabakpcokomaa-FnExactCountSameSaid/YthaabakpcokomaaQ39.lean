/-
  spec.l13All whatever the value; spec.l1Array, spec.l13Get over slices that lie at any place; spec.l13Paths.
-/
import Derived.Test.YthaabakpcokomaaQ20
import Derived.Test.YthaabakpcokomaaQ36
import Derived.Test.YthaabakpcokomaaQ37
import Derived.Test.YthaabakpcokomaaQ38
namespace Go.Proofs.Ythaabakpcokomaa
open Go.RowKit
set_option linter.unusedVariables false
set_option linter.unusedSimpArgs false

set_option maxRecDepth 100000 in
set_option maxHeartbeats 1000000 in
theorem l13GetO_any (v : List M.Cl) (b off cap : Nat) (cs : List M.Cl) (a : Option Addr) (cap' : Nat) (w : World) (hv : M.valueFault v = 0) (hrow : Row w b off v) (hb : b < w.heap.size) (hcap : v.length ≤ cap) (hs : ∀ c ∈ cs, Pth.Stp c) (hlv : Pth.PL w a cs) (hn' : cs.length ≤ 200) (hcap' : cs.length ≤ cap') (hc : cap' ≤ 9223372036854775807) :
    Calls Try.prog 63 #[.slice (some ⟨b, off, none⟩) v.length cap, .slice a cs.length cap'] w (Ans w (Pth.getS v cs)) := by
  have hvl := (Pth.lens hv).2
  have HV := hide hv
  have HS := hide hs
  have HL := hide hlv
  obtain ⟨i0, hi, hz0, hz1, hz2⟩ := info_parts Try.info67
  obtain ⟨W0, hW0⟩ : ∃ W0, W0 = w.alloc (.cells #[.int .i64 0, .slice none 0 0] 36) := ⟨_, rfl⟩
  have B0 : Below w.heap.size w W0 := by rw [hW0]; exact (Below.refl _ _).alloc (Nat.le_refl _) _
  have SZ : Hid (W0.heap.size = w.heap.size + 1) := hide (by rw [hW0]; simp)
  have hnews := hide (fun o => row_words ((hrow.below B0 hb).below ((Below.refl W0.heap.size W0).alloc (Nat.le_refl _) o) (by have := SZ.out; omega)))
  have hone := hide (flat_one v)
  have HFL := hide (flat_length v)
  have hoe := hide (owns_empty5 W0 67)
  have hb63 : 0 + v.length ≤ maxLen := by unfold maxLen; omega
  have hby : (0 + v.length) * 56 ≤ 140737488355328 := by omega
  have LST := hide (fun w1 sv hb1 hr1 => Pth.Lg.start (w := w) (w1 := w1) (sv := sv) hv hb1 hr1)
  rw [← hW0] at LST
  clear hv hs hrow hlv
  go_enter Try.func63, Try.ntmps63
  go_upto_region 1 with fail
  rw [← hW0]
  clear hW0
  go_wp2_with (at_builtin; refine wpList_append_own _ rfl (.tmp 7) (.tmp 8) 28 rfl W0.heap.size 67 i0 _ 5 56 Try.underlying28 hi hz0 hz1 hz2 rfl (by decide) _ 0 [] rfl (unhide hoe) ⟨b, off, none⟩ v.length cap (flat v) rfl (unhide HFL) ((unhide hnews) _) (unhide hone) hb63 hby (by simp) ?_)
  intro sv w1 ho hg _
  have hB : Below W0.heap.size W0 w1 := ((Below.refl _ W0).alloc (Nat.le_refl _) _).grown hg (by simp) (fun q hq => by simp only [Value.ownBlock, Option.some.injEq] at hq; omega)
  have hr1 : Res w1 W0.heap.size sv v := res_of_owns (l := v) (by simpa using ho) (by omega)
  rw [SZ.out] at hB hr1
  obtain ⟨va, vn, vc, rfl⟩ := hr1.shape
  have L0 := hide ((unhide LST) w1 _ hB hr1)
  clear ho hg hB hr1 hnews hone HFL hoe hb63 hby LST
  generalize hgb : w1.heap.size = gb at *
  go_wp2_with fail
  generalize w1.alloc (.cells #[.int .i64 0, .slice va vn vc] 36) = w3 at *
  clear hgb w1
  go_loopg [6] cs.length (fun g s6 wr => ∃ (k : Nat) (u : List M.Cl) (ua : Option Addr) (un uc : Nat), Hid (g = cs.length - k) ∧ s6 = .int .i64 k ∧ k ≤ cs.length ∧ Hid (Pth.getS v (cs.take k) = (0, u)) ∧ Hid (Pth.Lg w wr gb (.slice ua un uc) u))
  case atStart => exact ⟨0, v, va, vn, vc, rfl, rfl, by omega, by rw [List.take_zero]; rfl, unhide L0⟩
  case round =>
    clear L0
    obtain ⟨k, u, ua, un, uc, hg, rfl, hk, hgs, hL⟩ := hrel
    by_cases hlt : k < cs.length
    · have hst := (unhide HS) _ (getD_mem cs k hlt)
      have hgs2 := hide (fun h => Pth.get_take hlt hgs.out (cs := cs) |>.trans (if_pos h))
      have hstop := hide (fun h => Pth.get_stop hlt hgs.out (cs := cs) h)
      have hu := hL.out.va
      obtain ⟨ub, ucp, hsh, huc, hul, hub, hur⟩ := hL.out.rv.rowedQ (Pth.val_ne hu)
      simp only [Value.slice.injEq] at hsh
      obtain ⟨rfl, rfl, rfl⟩ := hsh
      obtain ⟨pg, pgo, hpa, hpg, hpr⟩ : ∃ g o, a = some ⟨g, o, none⟩ ∧ g < w.heap.size ∧ ∀ i, i < cs.length → ∃ b off c, w.cell? ⟨g, o + i, none⟩ = some (.slice (some ⟨b, off, none⟩) 1 c) ∧ 1 ≤ c ∧ b < w.heap.size ∧ Row w b off [cs.getD i M.zero] := by
        rcases unhide HL with e | e
        · rw [e] at hlt; simp at hlt
        · exact e
      subst hpa
      obtain ⟨pb, po, pc, f0, hpc, hpb, hrc⟩ := hpr k hlt
      clear hpr
      have hlen := (Pth.lens hu).2
      have hrc2 := hrc.below hL.out.bel hpb
      have hb2 : pb < wr.heap.size := Nat.lt_of_lt_of_le hpb hL.out.bel.size
      have HGA := hide (fun W (hW : Below wr.heap.size wr W) => l3At_any u ub 0 uc [cs.getD k M.zero] pb po pc W hu hst.val (hur.below hW hub) (Nat.lt_of_lt_of_le hub hW.size) (by omega) huc (Pth.oks hu) (hrc2.below hW hb2) (Nat.lt_of_lt_of_le hb2 hW.size) (by simp) (by simpa using hpc) (Pth.oks hst.val))
      simp only [List.getD_cons_zero, List.length_cons, List.length_nil, Nat.zero_add] at HGA
      have hgd := hide (Pth.at_gd hu (cs.getD k M.zero))
      have f1 := (hL.out.bel.cell hpg).trans f0
      have hpg2 : pg < wr.heap.size := Nat.lt_of_lt_of_le hpg hL.out.bel.size
      clear hrc hrc2 hst hur hul hgs f0
      generalize cs.getD k M.zero = c at *
      generalize hR : atIn u c = R at *
      clear hR
      obtain ⟨rc, rl⟩ := R
      simp only at hgs2 hstop hgd
      have g1 := hL.out.gt.cell 1
      simp only [List.getElem?_cons_zero, List.getElem?_cons_succ] at g1
      have B0 := Below.refl wr.heap.size wr
      have KEEP := hide (show ∀ W, Below wr.heap.size wr W → W.cell? ⟨gb, 1, none⟩ = some (.slice (some ⟨ub, 0, none⟩) u.length uc) ∧ W.cell? ⟨pg, pgo + k, none⟩ = some (.slice (some ⟨pb, po, none⟩) 1 pc) ∧ Below wr.heap.size wr W from fun W hW => ⟨(hW.cell hL.out.gt.lt).trans g1, (hW.cell hpg2).trans f1, hW⟩)
      clear g1 f1
      have s0 : (0 : Int) ≤ (k : Int) := by omega
      have s1 : (k : Int) < (cs.length : Int) := by omega
      go_upto_region 5 with fail
      refine Z.region 7 (fun w' => Below wr.heap.size wr w') (by kernel_rfl) B0.drew (fun hHeld => ?_)
      refine Z.take (i := 0) (d := 17) (v := .pointer (some ⟨gb, 1, none⟩)) rfl rfl (by kernel_rfl) (by kernel_rfl) (by kernel_rfl) (by kernel_rfl) (fun _ _ _ h => h) (Or.inl ⟨by rfl, ?_⟩) hHeld ?_
      · intro w' hSw; go_simp
      simp only [Act.put, List.setIfInBounds_toArray, List.set_cons_zero, List.set_cons_succ]
      refine Z.take (i := 1) (d := 18) (v := .slice (some ⟨ub, 0, none⟩) u.length uc) rfl rfl (by kernel_rfl) (by kernel_rfl) (by kernel_rfl) (by kernel_rfl) (fun _ _ _ h => h) (Or.inl ⟨by rfl, ?_⟩) hHeld ?_
      · intro w' hSw; have g1 := ((unhide KEEP) _ hSw).1; go_simp
      simp only [Act.put, List.setIfInBounds_toArray, List.set_cons_zero, List.set_cons_succ]
      refine Z.take (i := 2) (d := 19) (v := .slice (some ⟨pg, pgo, none⟩) cs.length cap') rfl rfl (by kernel_rfl) (by kernel_rfl) (by kernel_rfl) (by kernel_rfl) (fun _ _ _ h => h) (Or.inl ⟨by rfl, ?_⟩) hHeld ?_
      · intro w' hSw; go_simp
      simp only [Act.put, List.setIfInBounds_toArray, List.set_cons_zero, List.set_cons_succ]
      refine Z.take (i := 3) (d := 20) (v := .int .i64 (k : Int)) rfl rfl (by kernel_rfl) (by kernel_rfl) (by kernel_rfl) (by kernel_rfl) (fun _ _ _ h => h) (Or.inl ⟨by rfl, ?_⟩) hHeld ?_
      · intro w' hSw; go_simp
      simp only [Act.put, List.setIfInBounds_toArray, List.set_cons_zero, List.set_cons_succ]
      refine Z.take (i := 4) (d := 21) (v := .pointer (some ⟨pg, pgo + k, none⟩)) rfl rfl (by kernel_rfl) (by kernel_rfl) (by kernel_rfl) (by kernel_rfl) (fun _ _ _ h => h) (Or.inl ⟨by rfl, ?_⟩) hHeld ?_
      · intro w' hSw; go_simp
      simp only [Act.put, List.setIfInBounds_toArray, List.set_cons_zero, List.set_cons_succ]
      refine Z.take (i := 5) (d := 22) (v := .slice (some ⟨pb, po, none⟩) 1 pc) rfl rfl (by kernel_rfl) (by kernel_rfl) (by kernel_rfl) (by kernel_rfl) (fun _ _ _ h => h) (Or.inl ⟨by rfl, ?_⟩) hHeld ?_
      · intro w' hSw; have g1 := ((unhide KEEP) _ hSw).2.1; go_simp
      simp only [Act.put, List.setIfInBounds_toArray, List.set_cons_zero, List.set_cons_succ]
      refine Z.only (i := 6) (d := 23) rfl rfl (by kernel_rfl) (by rfl) (fun K hK => ?_)
      go_simp
      refine ((unhide HGA) _ B0.drew).mono ?_
      rintro e w2 ⟨s2, rfl, hr2, hb2⟩
      have hb2' : Below wr.heap.size wr w2 := B0.drew.trans (hb2.mono (Nat.le_refl _))
      go_simp
      refine hK.out (.agg #[.int .i64 rc, s2]) _ hb2' ?_
      clear hK K
      simp only [Act.put, List.setIfInBounds_toArray, List.set_cons_zero, List.set_cons_succ]
      have hL2 := hL.out.call hb2'
      have c0 := hL2.gt.cell 0
      have c1 := hL2.gt.cell 1
      have z0 := hL2.gt.frozen 0
      have z1 := hL2.gt.frozen 1
      simp only [List.getElem?_cons_zero, List.getElem?_cons_succ] at c0 c1
      have hr2' : Res w2 wr.heap.size s2 rl := hr2
      obtain ⟨sa, sn, sc, rfl⟩ := hr2'.shape
      refine Z.last_at (w' := (w2.setCell ⟨gb, 0, none⟩ (.int .i64 rc)).setCell ⟨gb, 1, none⟩ (.slice sa sn sc)) rfl (by kernel_rfl) (by rfl) (fun K hK => ?_) ?_
      · go_simp
        exact hK.out
      refine Z.done (by kernel_rfl) ?_ _
      have G2 := hide ((hL2.gt.set 0 (.int .i64 rc)).set 1 (.slice sa sn sc))
      have R2 := hide ((hL2.rs.setOther ⟨gb, 0, none⟩ (.int .i64 rc) (by have := hL.out.lo; show w.heap.size ≠ gb; omega)).setOther ⟨gb, 1, none⟩ (.slice sa sn sc) (by have := hL.out.lo; show w.heap.size ≠ gb; omega))
      clear c0 c1 z0 z1 hL2 hb2 hr2
      have FINB := hide (hL.out.fin hb2' hr2' (.int .i64 rc) (.slice sa sn sc))
      have NEXT := hide (fun (h : rc = 0) => hL.out.put hb2' hr2' (hgd.out.ok h))
      clear hL hb2' hr2' B0 KEEP HGA
      generalize hWW : (w2.setCell ⟨gb, 0, none⟩ (.int .i64 rc)).setCell ⟨gb, 1, none⟩ (.slice sa sn sc) = WW at *
      have q0 := (unhide G2).cell 0
      have q1 := (unhide G2).cell 1
      have p0 := (unhide R2).cell 0
      have p1 := (unhide R2).cell 1
      have y0 := (unhide R2).frozen 0
      have y1 := (unhide R2).frozen 1
      simp only [List.set_cons_zero, List.set_cons_succ, List.getElem?_cons_zero, List.getElem?_cons_succ] at q0 q1 p0 p1
      by_cases hz : rc = 0
      · subst hz
        have N := hide ((unhide NEXT) rfl)
        have E := hide ((unhide hgs2) rfl)
        rw [hWW] at N
        clear hWW NEXT FINB hgs2 hstop hgd
        go_wp2_with fail
        go_roundg (cs.length - (k + 1))
        case rel => exact ⟨k + 1, rl, sa, sn, sc, rfl, by go_num, by omega, unhide E, unhide N⟩
        case measure => have := hg.out; omega
      · have E := hide ((unhide hstop) hz)
        have hz' : (rc == 0) = false := by simp [hz]
        have F := hide ((unhide FINB) (.int .i64 rc) (.slice sa sn sc))
        clear hWW NEXT FINB hgs2 hstop hgd hz
        go_wp2_with fail
        refine bodyPost_ret (v := .agg #[.int .i64 rc, .slice sa sn sc]) (by simp [results, Try.results63, go_sem, p0, p1]) rfl (ans_of (unhide E) (unhide F).1 (unhide F).2)
    · have hke : k = cs.length := by omega
      have E := hide (show Pth.getS v cs = (0, u) by have := hgs.out; rwa [hke, List.take_length] at this)
      have D := hide (fun x y => hL.out.done x y hL.out.apart)
      have q0 := hL.out.gt.cell 0
      have q1 := hL.out.gt.cell 1
      have p0 := hL.out.rs.cell 0
      have p1 := hL.out.rs.cell 1
      have y0 := hL.out.rs.frozen 0
      have y1 := hL.out.rs.frozen 1
      simp only [List.getElem?_cons_zero, List.getElem?_cons_succ] at q0 q1 p0 p1
      clear hke hgs hL
      go_wp2_with fail
      refine bodyPost_ret (v := .agg #[.int .i64 0, .slice ua un uc]) (by simp [results, Try.results63, go_sem, p0, p1]) rfl (ans_of (unhide E) ((unhide D) _ _).1 ((unhide D) _ _).2)

namespace Al
/-- The cells of a path. -/
def pathC (p : List M.Cl) : List M.Cl := headCl 5 p.length :: p
theorem pathC_length (p : List M.Cl) : (pathC p).length = p.length + 1 := by simp [pathC]
def ones (p : List M.Cl) : List (List M.Cl) := p.map fun c => [c]
theorem ones_length (p : List M.Cl) : (ones p).length = p.length := by simp [ones]
theorem ones_getD (p : List M.Cl) (i : Nat) (hi : i < p.length) : (ones p).getD i [] = [p.getD i M.zero] := by
  simp [ones, List.getD_eq_getElem?_getD, hi]
theorem ones_flatten (p : List M.Cl) : (ones p).flatten = p := by
  induction p with
  | nil => rfl
  | cons c p ih => rw [show ones (c :: p) = [c] :: ones p from rfl, List.flatten_cons, ih]; rfl
theorem arr_ones (p : List M.Cl) : arrV (ones p) = pathC p := by
  unfold arrV arrK pathC
  rw [List.take_length, ones_flatten, ones_length]
theorem ones_valid {p : List M.Cl} (h : ∀ c ∈ p, Pth.Stp c) : ∀ j, j < (ones p).length → M.valueFault ((ones p).getD j []) = 0 := by
  intro j hj
  rw [ones_length] at hj
  rw [ones_getD p j hj]
  exact (h _ (getD_mem p j hj)).val
/-- l13All, whatever the value. -/
theorem all_says : ∀ f, AllSays f
  | 0 => fun v b off cap pa pc ahead leaves w hv hf => by have := (M.fault_zero hv).1; omega
  | f + 1 => by
    intro v b off cap pa pc ahead leaves w hv hf hrow hb hcap hpt hnil hpc hpc' hsz
    cases leaves
    · exact all_every f (hide (all_says f)) v b off cap pa pc ahead w hv hf hrow hb hcap hpt hnil hpc hpc' hsz
    · by_cases h0 : (v.getD 0 M.zero).n = 0
      · exact all_leaf f (hide (all_says f)) v b off cap pa pc ahead w hv hf hrow hb hcap hpt hnil hpc hpc' hsz h0
      · exact all_not f (hide (all_says f)) v b off cap pa pc ahead w hv hf hrow hb hcap hpt hnil hpc hpc' hsz h0
/-- The steps of all paths. -/
def steps (leaves : Bool) (v : List M.Cl) : List (List M.Cl) := all leaves v.length v []
theorem steps_len (leaves : Bool) {v : List M.Cl} (hv : M.valueFault v = 0) : (steps leaves v).length ≤ 200 := Nat.le_trans (all_len leaves _ v [] hv) (M.fault_zero hv).2.1
theorem steps_at (leaves : Bool) {v : List M.Cl} (hv : M.valueFault v = 0) {i : Nat} (hi : i < (steps leaves v).length) : (∀ c ∈ (steps leaves v).getD i [], Pth.Stp c) ∧ ((steps leaves v).getD i []).length + 1 ≤ v.length ∧ ∃ u, Pth.getS v ((steps leaves v).getD i []) = (0, u) ∧ M.valueFault u = 0 := by
  have hm : (steps leaves v).getD i [] ∈ steps leaves v := by rw [List.getD_eq_getElem?_getD, List.getElem?_eq_getElem hi]; exact List.getElem_mem hi
  obtain ⟨q, e, h1, h2, u, h3, h4⟩ := (all_leads leaves _ v [] _ hv hm).ex
  rw [List.nil_append] at e
  rw [e]
  exact ⟨h1, h2, u, h3, h4⟩
theorem l13All_any (leaves : Bool) (v : List M.Cl) (b off cap : Nat) (w : World) (hv : M.valueFault v = 0) (hrow : Row w b off v) (hb : b < w.heap.size) (hcap : v.length ≤ cap) :
    Calls Try.prog 62 #[.slice (some ⟨b, off, none⟩) v.length cap, .slice none 0 0, .bool leaves] w fun e w' => ∃ s, e = .returned s ∧ PPL w' w.heap.size s (steps leaves v) ∧ Below w.heap.size w w' :=
  all_says v.length v b off cap none 0 [] leaves w hv (Nat.le_refl _) hrow hb hcap (PT.nil _ _) (fun _ => ⟨rfl, rfl⟩) (Nat.zero_le _) (by omega) (by have := (M.fault_zero hv).2.1; simp; omega)
/-- A path out of a row of them. -/
theorem PPL.at {w : World} {B : Nat} {s : Value} {L : List (List M.Cl)} (h : PPL w B s L) (hL : 0 < L.length) : ∃ g c cur, s = .slice (some ⟨g, 0, none⟩) L.length c ∧ L.length ≤ c ∧ B ≤ g ∧ w.heap[g]? = some (.cells cur 24 (0, 0)) ∧ ∀ i, i < L.length → ∃ pa pc, cur.toList[i]? = some (.slice pa (L.getD i []).length pc) ∧ (L.getD i []).length ≤ pc ∧ pc ≤ 9223372036854775807 ∧ PT w pa (L.getD i []) := by
  obtain ⟨xs, ⟨h1, ⟨h2, h3⟩ | ⟨g, cap, cur, h2, h3, h4, h5, h6, h7, h8⟩⟩, h9⟩ := h
  · omega
  · refine ⟨g, cap, cur, h2, h5, h3, h4, fun i hi => ?_⟩
    obtain ⟨pa, pc, q1, q2⟩ := h9 i hi
    exact ⟨pa, pc, by rw [← q1, ← h8, List.getElem?_take_of_lt (by omega)], q2⟩

/-- What PathsIn and LeavesIn tell. -/
def pathsOut (leaves : Bool) (v : List M.Cl) : Int × List (List M.Cl) := if M.valueFault v ≠ 0 then (M.valueFault v, []) else (0, (steps leaves v).map pathC)
theorem paths_bad {leaves : Bool} {v : List M.Cl} (h : M.valueFault v ≠ 0) : pathsOut leaves v = (M.valueFault v, []) := if_pos h
theorem paths_ok {leaves : Bool} {v : List M.Cl} (h : M.valueFault v = 0) : pathsOut leaves v = (0, (steps leaves v).map pathC) := if_neg (by simp [h])
end Al
end Go.Proofs.Ythaabakpcokomaa
