/-
  impl.GetPath and spec.GetPath.
-/
import Derived.Test.YtheofnndigpjpaaPthF
import Derived.Test.YtheofnndigpjpaaAddB
import Derived.Test.YtheofnndigpjpaaPthZ
import Derived.Deep.Cut
import Derived.Deep.CutRange
import Derived.Deep.RegionHeld
namespace Go.Proofs.Ytheofnndigpjpaa
open Go.RowKit
set_option linter.unusedVariables false

theorem Res.rowedQ {w : World} {B : Nat} {s : Value} {l : List M.Cl} (h : Res w B s l) (hne : l ≠ []) : ∃ b cap, s = .slice (some ⟨b, 0, none⟩) l.length cap ∧ l.length ≤ cap ∧ B ≤ b ∧ b < w.heap.size ∧ Row w b 0 l := by
  obtain ⟨_, ⟨_, h2⟩ | ⟨c, cc, h3, h4, h5, h6⟩⟩ := h
  · exact absurd h2 hne
  · exact ⟨c, cc, h3, h5, h4, h6.lt, h6.row⟩
theorem Pth.val_ne {v : List M.Cl} (h : M.valueFault v = 0) : v ≠ [] := by intro e; have := (Pth.lens h).1; rw [e] at this; simp at this
theorem Pth.ga {u : List M.Cl} {c : M.Cl} (hu : M.valueFault u = 0) (hc : Pth.Stp c) : gaOut u [c] = atIn u c := ga_ok (by unfold bothOut; rw [if_neg (by simp [hu])]; exact hc.val)

/-- What lies in memory while the steps of a path are gone: the answer's own block, and the block of what was got. -/
structure Pth.Lg (w wr : World) (gb : Nat) (sv : Value) (u : List M.Cl) : Prop where
  bel : Below w.heap.size w wr
  rs : Own wr w.heap.size 30 [.int .i64 0, .slice none 0 0]
  gt : Own wr gb 30 [.int .i64 0, sv]
  lo : w.heap.size < gb
  rv : Res wr w.heap.size sv u
  va : M.valueFault u = 0
theorem Pth.Lg.start {w w1 : World} {sv : Value} {v : List M.Cl} (hv : M.valueFault v = 0) (hb : Below (w.heap.size + 1) (w.alloc (.cells #[.int .i64 0, .slice none 0 0] 30)) w1) (hr : Res w1 (w.heap.size + 1) sv v) : Pth.Lg w (w1.alloc (.cells #[.int .i64 0, sv] 30)) w1.heap.size sv v := by
  have hsz := hb.size
  simp only [World.size_alloc] at hsz
  refine ⟨(((Below.refl _ _).alloc (Nat.le_refl _) _).trans (hb.mono (by omega))).alloc (by omega) _, ?_, ⟨_, heap_alloc_new _ _, rfl⟩, by omega, (hr.alloc _).mono (by omega), hv⟩
  exact Own.alloc (Own.below ⟨_, heap_alloc_new _ _, rfl⟩ hb (by omega)) _
theorem Pth.Lg.call {w wr w2 : World} {gb : Nat} {sv : Value} {u : List M.Cl} (h : Pth.Lg w wr gb sv u) (hb : Below wr.heap.size wr w2) : Pth.Lg w w2 gb sv u :=
  ⟨h.bel.trans (hb.mono h.bel.size), h.rs.below hb h.rs.lt, h.gt.below hb h.gt.lt, h.lo, h.rv.below hb, h.va⟩
theorem Pth.Lg.put {w wr w2 : World} {gb : Nat} {sv s2 : Value} {u u2 : List M.Cl} (h : Pth.Lg w wr gb sv u) (hb : Below wr.heap.size wr w2) (hr : Res w2 wr.heap.size s2 u2) (hv : M.valueFault u2 = 0) : Pth.Lg w ((w2.setCell ⟨gb, 0, none⟩ (.int .i64 0)).setCell ⟨gb, 1, none⟩ s2) gb s2 u2 := by
  have h2 := h.call hb
  have hne : ∀ b, s2.ownBlock = some b → b ≠ gb := fun b hq => by have := hr.base b hq; have := h.gt.lt; omega
  have hl := h.lo
  refine ⟨(h2.bel.setCell (by show w.heap.size ≤ gb; omega) _).setCell (by show w.heap.size ≤ gb; omega) _, (h2.rs.setOther _ _ (by simp; omega)).setOther _ _ (by simp; omega), ?_, hl, ((hr.mono h.bel.size).setOther _ _ hne).setOther _ _ hne, hv⟩
  have := (h2.gt.set 0 (.int .i64 0)).set 1 s2
  simpa using this
/-- A code was met: what was got is put as the answer. -/
theorem Pth.Lg.fin {w wr w2 : World} {gb : Nat} {sv s2 : Value} {u u2 : List M.Cl} (h : Pth.Lg w wr gb sv u) (hb : Below wr.heap.size wr w2) (hr : Res w2 wr.heap.size s2 u2) (x y x' y' : Value) :
    Res ((((w2.setCell ⟨gb, 0, none⟩ x).setCell ⟨gb, 1, none⟩ y).setCell ⟨w.heap.size, 0, none⟩ x').setCell ⟨w.heap.size, 1, none⟩ y') w.heap.size s2 u2 ∧ Below w.heap.size w ((((w2.setCell ⟨gb, 0, none⟩ x).setCell ⟨gb, 1, none⟩ y).setCell ⟨w.heap.size, 0, none⟩ x').setCell ⟨w.heap.size, 1, none⟩ y') := by
  have h2 := h.call hb
  have hl := h.lo
  have hne : ∀ b, s2.ownBlock = some b → b ≠ gb := fun b hq => by have := hr.base b hq; have := h.gt.lt; omega
  have hne2 : ∀ b, s2.ownBlock = some b → b ≠ w.heap.size := fun b hq => by have := hr.base b hq; have := h.rs.lt; omega
  exact ⟨((((hr.mono h.bel.size).setOther _ _ hne).setOther _ _ hne).setOther _ _ hne2).setOther _ _ hne2, (((h2.bel.setCell (by show w.heap.size ≤ gb; omega) _).setCell (by show w.heap.size ≤ gb; omega) _).setCell (Nat.le_refl _) _).setCell (Nat.le_refl _) _⟩
theorem Pth.Lg.done {w wr : World} {gb : Nat} {sv : Value} {u : List M.Cl} (h : Pth.Lg w wr gb sv u) (x' y' : Value) (hne2 : ∀ b, sv.ownBlock = some b → b ≠ w.heap.size) :
    Res ((wr.setCell ⟨w.heap.size, 0, none⟩ x').setCell ⟨w.heap.size, 1, none⟩ y') w.heap.size sv u ∧ Below w.heap.size w ((wr.setCell ⟨w.heap.size, 0, none⟩ x').setCell ⟨w.heap.size, 1, none⟩ y') :=
  ⟨(h.rv.setOther _ _ hne2).setOther _ _ hne2, (h.bel.setCell (Nat.le_refl _) _).setCell (Nat.le_refl _) _⟩
theorem Pth.Lg.apart {w wr : World} {gb : Nat} {sv : Value} {u : List M.Cl} (h : Pth.Lg w wr gb sv u) : ∀ b, sv.ownBlock = some b → b ≠ w.heap.size := by
  intro b hq e
  subst e
  obtain ⟨_, ⟨h1, h2⟩ | ⟨c, cc, h3, h4, h5, ⟨xs, h6, _⟩⟩⟩ := h.rv
  · exact Pth.val_ne h.va h2
  · rw [h3] at hq
    simp only [Value.ownBlock, Option.some.injEq] at hq
    subst hq
    obtain ⟨c1, q1, _⟩ := h.rs
    obtain ⟨c2, q2, _⟩ := h6
    rw [q1] at q2
    simp at q2

set_option maxRecDepth 100000 in
set_option maxHeartbeats 1000000 in
theorem getSteps_any (v : List M.Cl) (b off cap : Nat) (cs : List M.Cl) (b' o cap' : Nat) (w : World) (hv : M.valueFault v = 0) (hrow : Row w b off v) (hb : b < w.heap.size) (hcap : v.length ≤ cap) (hs : ∀ c ∈ cs, Pth.Stp c) (hrow' : Row w b' o cs) (hb' : b' < w.heap.size) (hn' : cs.length ≤ 200) (hcap' : cs.length ≤ cap') (hc : cap' ≤ 9223372036854775807) :
    Calls Try.prog 43 #[.slice (some ⟨b, off, none⟩) v.length cap, .slice (some ⟨b', o, none⟩) cs.length cap'] w (Ans w (Pth.getS v cs)) := by
  have HC := hide (fun w' r hb'' => clone_any v b off cap w' r hb'' (by have := (Pth.lens hv).2; omega))
  have HV := hide hv
  have HS := hide hs
  have HR' := hide hrow'
  have B0 : ∀ o, Below w.heap.size w (w.alloc o) := fun o => (Below.refl _ _).alloc (Nat.le_refl _) o
  have R0 := hide (fun x => hrow.below (B0 x) hb)
  clear hv hs hrow hrow' B0
  go_enter Try.func43, Try.ntmps43
  go_wp2_with fail
  refine ((unhide HC) _ ((unhide R0) _) (by simp; omega)).mono ?_
  rintro e w1 ⟨sv, rfl, hr1, hb1⟩
  simp only [World.size_alloc] at hr1 hb1
  obtain ⟨va, vn, vc, rfl⟩ := hr1.shape
  have L0 := hide (Pth.Lg.start (unhide HV) hb1 hr1)
  generalize hgb : w1.heap.size = gb at *
  clear hr1 hb1 HC R0
  go_wp2_with fail
  generalize w1.alloc (.cells #[.int .i64 0, .slice va vn vc] 30) = w3 at *
  clear hgb w1
  go_loopg [12] cs.length (fun g s12 wr => ∃ (k : Nat) (u : List M.Cl) (ua : Option Addr) (un uc : Nat), Hid (g = cs.length - k) ∧ s12 = .int .i64 k ∧ k ≤ cs.length ∧ Hid (Pth.getS v (cs.take k) = (0, u)) ∧ Hid (Pth.Lg w wr gb (.slice ua un uc) u))
  case atStart => exact ⟨0, v, va, vn, vc, rfl, rfl, by omega, by rw [List.take_zero]; rfl, unhide L0⟩
  case round =>
    clear L0
    obtain ⟨k, u, ua, un, uc, hg, rfl, hk, hgs, hL⟩ := hrel
    by_cases hlt : k < cs.length
    · have hst := (unhide HS) _ (getD_mem cs k hlt)
      have hgs2 := hide (fun h => Pth.get_take hlt hgs.out (cs := cs) |>.trans (if_pos h))
      have hstop := hide (fun h => Pth.get_stop hlt hgs.out (cs := cs) h)
      have hu := hL.out.va
      obtain ⟨ub, ucp, hsh, huc, hul, hub, hur⟩ := hL.out.rv.rowedQ (Pth.val_ne hu)
      simp only [Value.slice.injEq] at hsh
      obtain ⟨rfl, rfl, rfl⟩ := hsh
      have hrc : Row wr b' (o + k * 5) [cs.getD k M.zero] := by
        intro i hi
        have hi0 : i = 0 := by simp at hi; exact hi
        subst hi0
        exact ((unhide HR').below hL.out.bel hb') k hlt
      have hlen := (Pth.lens hu).2
      have hb2 : b' < wr.heap.size := Nat.lt_of_lt_of_le hb' hL.out.bel.size
      have hga := hide (Pth.ga hu hst)
      have HGA := hide (fun W (hW : Below wr.heap.size wr W) => implGetAt_any u ub 0 uc [cs.getD k M.zero] b' (o + k * 5) (cap' - k) W (hur.below hW hub) (Nat.lt_of_lt_of_le hub hW.size) (by omega) huc (Pth.oks hu) (hrc.below hW hb2) (Nat.lt_of_lt_of_le hb2 hW.size) (by simp) (by simp; omega) (Pth.oks hst.val))
      rw [unhide hga] at HGA
      have hgd := hide (Pth.at_gd hu (cs.getD k M.zero))
      clear hga hrc hst hur hul hgs
      generalize cs.getD k M.zero = c at *
      generalize hR : atIn u c = R at *
      clear hR
      obtain ⟨rc, rl⟩ := R
      simp only at hgs2 hstop hgd
      have g1 := hL.out.gt.cell 1
      simp only [List.getElem?_cons_zero, List.getElem?_cons_succ] at g1
      have B0 := Below.refl wr.heap.size wr
      have KEEP := hide (show ∀ W, Below wr.heap.size wr W → W.cell? ⟨gb, 1, none⟩ = some (.slice (some ⟨ub, 0, none⟩) u.length uc) ∧ Below wr.heap.size wr W from fun W hW => ⟨(hW.cell hL.out.gt.lt).trans g1, hW⟩)
      clear g1
      have s0 : (0 : Int) ≤ (k : Int) := by omega
      have s1 : (k : Int) ≤ (k : Int) + 1 := by omega
      have s2 : (k : Int) + 1 ≤ (cap' : Int) := by omega
      have s3 : IntKind.i64.wrap ((k : Int) + 1) = (k : Int) + 1 := IntWalk.i64_in _ ⟨by omega, by omega⟩
      have s4 : k < cap' := by omega
      go_upto_region 5 with fail
      refine Z.region 8 (fun w' => Below wr.heap.size wr w') (by kernel_rfl) B0.drew (fun hHeld => ?_)
      refine Z.take (i := 0) (d := 15) (v := .pointer (some ⟨gb, 1, none⟩)) rfl rfl (by kernel_rfl) (by kernel_rfl) (by kernel_rfl) (by kernel_rfl) (fun _ _ _ h => h) (Or.inl ⟨by rfl, ?_⟩) hHeld ?_
      · intro w' hSw; go_simp
      simp only [Act.put, List.setIfInBounds_toArray, List.set_cons_zero, List.set_cons_succ]
      refine Z.take (i := 1) (d := 16) (v := .slice (some ⟨ub, 0, none⟩) u.length uc) rfl rfl (by kernel_rfl) (by kernel_rfl) (by kernel_rfl) (by kernel_rfl) (fun _ _ _ h => h) (Or.inl ⟨by rfl, ?_⟩) hHeld ?_
      · intro w' hSw; have g1 := ((unhide KEEP) _ hSw).1; go_simp
      simp only [Act.put, List.setIfInBounds_toArray, List.set_cons_zero, List.set_cons_succ]
      refine Z.take (i := 2) (d := 17) (v := .slice (some ⟨b', o, none⟩) cs.length cap') rfl rfl (by kernel_rfl) (by kernel_rfl) (by kernel_rfl) (by kernel_rfl) (fun _ _ _ h => h) (Or.inl ⟨by rfl, ?_⟩) hHeld ?_
      · intro w' hSw; go_simp
      simp only [Act.put, List.setIfInBounds_toArray, List.set_cons_zero, List.set_cons_succ]
      refine Z.take (i := 3) (d := 18) (v := .int .i64 (k : Int)) rfl rfl (by kernel_rfl) (by kernel_rfl) (by kernel_rfl) (by kernel_rfl) (fun _ _ _ h => h) (Or.inl ⟨by rfl, ?_⟩) hHeld ?_
      · intro w' hSw; go_simp
      simp only [Act.put, List.setIfInBounds_toArray, List.set_cons_zero, List.set_cons_succ]
      refine Z.take (i := 4) (d := 19) (v := .int .i64 (k : Int)) rfl rfl (by kernel_rfl) (by kernel_rfl) (by kernel_rfl) (by kernel_rfl) (fun _ _ _ h => h) (Or.inl ⟨by rfl, ?_⟩) hHeld ?_
      · intro w' hSw; go_simp
      simp only [Act.put, List.setIfInBounds_toArray, List.set_cons_zero, List.set_cons_succ]
      refine Z.take (i := 5) (d := 20) (v := .int .i64 ((k : Int) + 1)) rfl rfl (by kernel_rfl) (by kernel_rfl) (by kernel_rfl) (by kernel_rfl) (fun _ _ _ h => h) (Or.inl ⟨by rfl, ?_⟩) hHeld ?_
      · intro w' hSw; go_simp
      simp only [Act.put, List.setIfInBounds_toArray, List.set_cons_zero, List.set_cons_succ]
      refine Z.take (i := 6) (d := 21) (v := .slice (some ⟨b', o + k * 5, none⟩) 1 (cap' - k)) rfl rfl (by kernel_rfl) (by kernel_rfl) (by kernel_rfl) (by kernel_rfl) (fun _ _ _ h => h) (Or.inl ⟨by rfl, ?_⟩) hHeld ?_
      · intro w' hSw; go_simp; omega
      simp only [Act.put, List.setIfInBounds_toArray, List.set_cons_zero, List.set_cons_succ]
      refine Z.only (i := 7) (d := 22) rfl rfl (by kernel_rfl) (by rfl) (fun K hK => ?_)
      go_simp
      refine ((unhide HGA) _ B0.drew).mono ?_
      rintro e w2 ⟨s2, rfl, hr2, hb2⟩
      have hb2' : Below wr.heap.size wr w2 := B0.drew.trans (hb2.mono (Nat.le_refl _))
      go_simp
      refine hK.out (.agg #[.int .i64 rc, s2]) _ hb2' ?_
      clear hK K
      simp only [Act.put, List.setIfInBounds_toArray, List.set_cons_zero, List.set_cons_succ]
      have hL2 := hL.out.call hb2'
      have c0 := hL2.gt.cell 0
      have c1 := hL2.gt.cell 1
      have z0 := hL2.gt.frozen 0
      have z1 := hL2.gt.frozen 1
      simp only [List.getElem?_cons_zero, List.getElem?_cons_succ] at c0 c1
      have hr2' : Res w2 wr.heap.size s2 rl := hr2
      obtain ⟨sa, sn, sc, rfl⟩ := hr2'.shape
      refine Z.last_at (w' := (w2.setCell ⟨gb, 0, none⟩ (.int .i64 rc)).setCell ⟨gb, 1, none⟩ (.slice sa sn sc)) rfl (by kernel_rfl) (by rfl) (fun K hK => ?_) ?_
      · go_simp
        exact hK.out
      refine Z.done (by kernel_rfl) ?_ _
      have G2 := hide ((hL2.gt.set 0 (.int .i64 rc)).set 1 (.slice sa sn sc))
      have R2 := hide ((hL2.rs.setOther ⟨gb, 0, none⟩ (.int .i64 rc) (by have := hL.out.lo; show w.heap.size ≠ gb; omega)).setOther ⟨gb, 1, none⟩ (.slice sa sn sc) (by have := hL.out.lo; show w.heap.size ≠ gb; omega))
      clear c0 c1 z0 z1 hL2 hb2 hr2
      have FINB := hide (hL.out.fin hb2' hr2' (.int .i64 rc) (.slice sa sn sc))
      have NEXT := hide (fun (h : rc = 0) => hL.out.put hb2' hr2' (hgd.out.ok h))
      clear hL hb2' hr2' B0 KEEP HGA
      generalize hWW : (w2.setCell ⟨gb, 0, none⟩ (.int .i64 rc)).setCell ⟨gb, 1, none⟩ (.slice sa sn sc) = WW at *
      have q0 := (unhide G2).cell 0
      have q1 := (unhide G2).cell 1
      have p0 := (unhide R2).cell 0
      have p1 := (unhide R2).cell 1
      have y0 := (unhide R2).frozen 0
      have y1 := (unhide R2).frozen 1
      simp only [List.set_cons_zero, List.set_cons_succ, List.getElem?_cons_zero, List.getElem?_cons_succ] at q0 q1 p0 p1
      by_cases hz : rc = 0
      · subst hz
        have N := hide ((unhide NEXT) rfl)
        have E := hide ((unhide hgs2) rfl)
        rw [hWW] at N
        clear hWW NEXT FINB hgs2 hstop hgd
        go_wp2_with fail
        go_roundg (cs.length - (k + 1))
        case rel => exact ⟨k + 1, rl, sa, sn, sc, rfl, by go_num, by omega, unhide E, unhide N⟩
        case measure => have := hg.out; omega
      · have E := hide ((unhide hstop) hz)
        have hz' : (rc == 0) = false := by simp [hz]
        have F := hide ((unhide FINB) (.int .i64 rc) (.slice sa sn sc))
        clear hWW NEXT FINB hgs2 hstop hgd hz
        go_wp2_with fail
        refine bodyPost_ret (v := .agg #[.int .i64 rc, .slice sa sn sc]) (by simp [results, Try.results43, go_sem, p0, p1]) rfl (ans_of (unhide E) (unhide F).1 (unhide F).2)
    · have hke : k = cs.length := by omega
      have E := hide (show Pth.getS v cs = (0, u) by have := hgs.out; rwa [hke, List.take_length] at this)
      have D := hide (fun x y => hL.out.done x y hL.out.apart)
      have q0 := hL.out.gt.cell 0
      have q1 := hL.out.gt.cell 1
      have p0 := hL.out.rs.cell 0
      have p1 := hL.out.rs.cell 1
      have y0 := hL.out.rs.frozen 0
      have y1 := hL.out.rs.frozen 1
      simp only [List.getElem?_cons_zero, List.getElem?_cons_succ] at q0 q1 p0 p1
      clear hke hgs hL
      go_wp2_with fail
      refine bodyPost_ret (v := .agg #[.int .i64 0, .slice ua un uc]) (by simp [results, Try.results43, go_sem, p0, p1]) rfl (ans_of (unhide E) ((unhide D) _ _).1 ((unhide D) _ _).2)

set_option maxRecDepth 100000 in
set_option maxHeartbeats 1000000 in
theorem l13Get_any (v : List M.Cl) (b off cap : Nat) (cs : List M.Cl) (ps : List (List M.Cl)) (a : Option Addr) (cap' : Nat) (w : World) (hv : M.valueFault v = 0) (hrow : Row w b off v) (hb : b < w.heap.size) (hcap : v.length ≤ cap) (hs : ∀ c ∈ cs, Pth.Stp c) (hpl : ps.length = cs.length) (hps : ∀ j, j < cs.length → ps.getD j [] = [cs.getD j M.zero]) (hlv : LV w a ps) (hn' : cs.length ≤ 200) (hcap' : cs.length ≤ cap') (hc : cap' ≤ 9223372036854775807) :
    Calls Try.prog 40 #[.slice (some ⟨b, off, none⟩) v.length cap, .slice a cs.length cap'] w (Ans w (Pth.getS v cs)) := by
  have hvl := (Pth.lens hv).2
  have HV := hide hv
  have HS := hide hs
  have HL := hide hlv
  have HPL := hide hpl
  have HPS := hide hps
  obtain ⟨i0, hi, hz0, hz1, hz2⟩ := info_parts Try.info48
  obtain ⟨W0, hW0⟩ : ∃ W0, W0 = w.alloc (.cells #[.int .i64 0, .slice none 0 0] 30) := ⟨_, rfl⟩
  have B0 : Below w.heap.size w W0 := by rw [hW0]; exact (Below.refl _ _).alloc (Nat.le_refl _) _
  have SZ : Hid (W0.heap.size = w.heap.size + 1) := hide (by rw [hW0]; simp)
  have hnews := hide (fun o => row_words ((hrow.below B0 hb).below ((Below.refl W0.heap.size W0).alloc (Nat.le_refl _) o) (by have := SZ.out; omega)))
  have hone := hide (flat_one v)
  have HFL := hide (flat_length v)
  have hoe := hide (owns_empty5 W0 48)
  have hb63 : 0 + v.length ≤ maxLen := by unfold maxLen; omega
  have hby : (0 + v.length) * 56 ≤ 140737488355328 := by omega
  have LST := hide (fun w1 sv hb1 hr1 => Pth.Lg.start (w := w) (w1 := w1) (sv := sv) hv hb1 hr1)
  rw [← hW0] at LST
  clear hv hs hrow hlv hpl hps
  go_enter Try.func40, Try.ntmps40
  go_upto_region 1 with fail
  rw [← hW0]
  clear hW0
  go_wp2_with (at_builtin; refine wpList_append_own _ rfl (.tmp 7) (.tmp 8) 25 rfl W0.heap.size 48 i0 _ 5 56 Try.underlying25 hi hz0 hz1 hz2 rfl (by decide) _ 0 [] rfl (unhide hoe) ⟨b, off, none⟩ v.length cap (flat v) rfl (unhide HFL) ((unhide hnews) _) (unhide hone) hb63 hby (by simp) ?_)
  intro sv w1 ho hg _
  have hB : Below W0.heap.size W0 w1 := ((Below.refl _ W0).alloc (Nat.le_refl _) _).grown hg (by simp) (fun q hq => by simp only [Value.ownBlock, Option.some.injEq] at hq; omega)
  have hr1 : Res w1 W0.heap.size sv v := res_of_owns (l := v) (by simpa using ho) (by omega)
  rw [SZ.out] at hB hr1
  obtain ⟨va, vn, vc, rfl⟩ := hr1.shape
  have L0 := hide ((unhide LST) w1 _ hB hr1)
  clear ho hg hB hr1 hnews hone HFL hoe hb63 hby LST
  generalize hgb : w1.heap.size = gb at *
  go_wp2_with fail
  generalize w1.alloc (.cells #[.int .i64 0, .slice va vn vc] 30) = w3 at *
  clear hgb w1
  go_loopg [6] cs.length (fun g s6 wr => ∃ (k : Nat) (u : List M.Cl) (ua : Option Addr) (un uc : Nat), Hid (g = cs.length - k) ∧ s6 = .int .i64 k ∧ k ≤ cs.length ∧ Hid (Pth.getS v (cs.take k) = (0, u)) ∧ Hid (Pth.Lg w wr gb (.slice ua un uc) u))
  case atStart => exact ⟨0, v, va, vn, vc, rfl, rfl, by omega, by rw [List.take_zero]; rfl, unhide L0⟩
  case round =>
    clear L0
    obtain ⟨k, u, ua, un, uc, hg, rfl, hk, hgs, hL⟩ := hrel
    by_cases hlt : k < cs.length
    · have hst := (unhide HS) _ (getD_mem cs k hlt)
      have hgs2 := hide (fun h => Pth.get_take hlt hgs.out (cs := cs) |>.trans (if_pos h))
      have hstop := hide (fun h => Pth.get_stop hlt hgs.out (cs := cs) h)
      have hu := hL.out.va
      obtain ⟨ub, ucp, hsh, huc, hul, hub, hur⟩ := hL.out.rv.rowedQ (Pth.val_ne hu)
      simp only [Value.slice.injEq] at hsh
      obtain ⟨rfl, rfl, rfl⟩ := hsh
      obtain ⟨pg, pb, po, pc, rfl, hpg, f0, hpc, hpb, hrc⟩ := (unhide HL) k (by rw [unhide HPL]; exact hlt)
      rw [(unhide HPS) k hlt] at f0 hpc hrc
      simp only [List.length_cons, List.length_nil, Nat.zero_add] at f0 hpc
      have hlen := (Pth.lens hu).2
      have hrc2 := hrc.below hL.out.bel hpb
      have hb2 : pb < wr.heap.size := Nat.lt_of_lt_of_le hpb hL.out.bel.size
      have HGA := hide (fun W (hW : Below wr.heap.size wr W) => l3At_any u ub 0 uc [cs.getD k M.zero] pb po pc W hu hst.val (hur.below hW hub) (Nat.lt_of_lt_of_le hub hW.size) (by omega) huc (Pth.oks hu) (hrc2.below hW hb2) (Nat.lt_of_lt_of_le hb2 hW.size) (by simp) (by simpa using hpc) (Pth.oks hst.val))
      simp only [List.getD_cons_zero, List.length_cons, List.length_nil, Nat.zero_add] at HGA
      have hgd := hide (Pth.at_gd hu (cs.getD k M.zero))
      have f1 := (hL.out.bel.cell hpg).trans f0
      have hpg2 : pg < wr.heap.size := Nat.lt_of_lt_of_le hpg hL.out.bel.size
      clear hrc hrc2 hst hur hul hgs f0
      generalize cs.getD k M.zero = c at *
      generalize hR : atIn u c = R at *
      clear hR
      obtain ⟨rc, rl⟩ := R
      simp only at hgs2 hstop hgd
      have g1 := hL.out.gt.cell 1
      simp only [List.getElem?_cons_zero, List.getElem?_cons_succ] at g1
      have B0 := Below.refl wr.heap.size wr
      have KEEP := hide (show ∀ W, Below wr.heap.size wr W → W.cell? ⟨gb, 1, none⟩ = some (.slice (some ⟨ub, 0, none⟩) u.length uc) ∧ W.cell? ⟨pg, k, none⟩ = some (.slice (some ⟨pb, po, none⟩) 1 pc) ∧ Below wr.heap.size wr W from fun W hW => ⟨(hW.cell hL.out.gt.lt).trans g1, (hW.cell hpg2).trans f1, hW⟩)
      clear g1 f1
      have s0 : (0 : Int) ≤ (k : Int) := by omega
      have s1 : (k : Int) < (cs.length : Int) := by omega
      go_upto_region 5 with fail
      refine Z.region 7 (fun w' => Below wr.heap.size wr w') (by kernel_rfl) B0.drew (fun hHeld => ?_)
      refine Z.take (i := 0) (d := 17) (v := .pointer (some ⟨gb, 1, none⟩)) rfl rfl (by kernel_rfl) (by kernel_rfl) (by kernel_rfl) (by kernel_rfl) (fun _ _ _ h => h) (Or.inl ⟨by rfl, ?_⟩) hHeld ?_
      · intro w' hSw; go_simp
      simp only [Act.put, List.setIfInBounds_toArray, List.set_cons_zero, List.set_cons_succ]
      refine Z.take (i := 1) (d := 18) (v := .slice (some ⟨ub, 0, none⟩) u.length uc) rfl rfl (by kernel_rfl) (by kernel_rfl) (by kernel_rfl) (by kernel_rfl) (fun _ _ _ h => h) (Or.inl ⟨by rfl, ?_⟩) hHeld ?_
      · intro w' hSw; have g1 := ((unhide KEEP) _ hSw).1; go_simp
      simp only [Act.put, List.setIfInBounds_toArray, List.set_cons_zero, List.set_cons_succ]
      refine Z.take (i := 2) (d := 19) (v := .slice (some ⟨pg, 0, none⟩) cs.length cap') rfl rfl (by kernel_rfl) (by kernel_rfl) (by kernel_rfl) (by kernel_rfl) (fun _ _ _ h => h) (Or.inl ⟨by rfl, ?_⟩) hHeld ?_
      · intro w' hSw; go_simp
      simp only [Act.put, List.setIfInBounds_toArray, List.set_cons_zero, List.set_cons_succ]
      refine Z.take (i := 3) (d := 20) (v := .int .i64 (k : Int)) rfl rfl (by kernel_rfl) (by kernel_rfl) (by kernel_rfl) (by kernel_rfl) (fun _ _ _ h => h) (Or.inl ⟨by rfl, ?_⟩) hHeld ?_
      · intro w' hSw; go_simp
      simp only [Act.put, List.setIfInBounds_toArray, List.set_cons_zero, List.set_cons_succ]
      refine Z.take (i := 4) (d := 21) (v := .pointer (some ⟨pg, k, none⟩)) rfl rfl (by kernel_rfl) (by kernel_rfl) (by kernel_rfl) (by kernel_rfl) (fun _ _ _ h => h) (Or.inl ⟨by rfl, ?_⟩) hHeld ?_
      · intro w' hSw; go_simp
      simp only [Act.put, List.setIfInBounds_toArray, List.set_cons_zero, List.set_cons_succ]
      refine Z.take (i := 5) (d := 22) (v := .slice (some ⟨pb, po, none⟩) 1 pc) rfl rfl (by kernel_rfl) (by kernel_rfl) (by kernel_rfl) (by kernel_rfl) (fun _ _ _ h => h) (Or.inl ⟨by rfl, ?_⟩) hHeld ?_
      · intro w' hSw; have g1 := ((unhide KEEP) _ hSw).2.1; go_simp
      simp only [Act.put, List.setIfInBounds_toArray, List.set_cons_zero, List.set_cons_succ]
      refine Z.only (i := 6) (d := 23) rfl rfl (by kernel_rfl) (by rfl) (fun K hK => ?_)
      go_simp
      refine ((unhide HGA) _ B0.drew).mono ?_
      rintro e w2 ⟨s2, rfl, hr2, hb2⟩
      have hb2' : Below wr.heap.size wr w2 := B0.drew.trans (hb2.mono (Nat.le_refl _))
      go_simp
      refine hK.out (.agg #[.int .i64 rc, s2]) _ hb2' ?_
      clear hK K
      simp only [Act.put, List.setIfInBounds_toArray, List.set_cons_zero, List.set_cons_succ]
      have hL2 := hL.out.call hb2'
      have c0 := hL2.gt.cell 0
      have c1 := hL2.gt.cell 1
      have z0 := hL2.gt.frozen 0
      have z1 := hL2.gt.frozen 1
      simp only [List.getElem?_cons_zero, List.getElem?_cons_succ] at c0 c1
      have hr2' : Res w2 wr.heap.size s2 rl := hr2
      obtain ⟨sa, sn, sc, rfl⟩ := hr2'.shape
      refine Z.last_at (w' := (w2.setCell ⟨gb, 0, none⟩ (.int .i64 rc)).setCell ⟨gb, 1, none⟩ (.slice sa sn sc)) rfl (by kernel_rfl) (by rfl) (fun K hK => ?_) ?_
      · go_simp
        exact hK.out
      refine Z.done (by kernel_rfl) ?_ _
      have G2 := hide ((hL2.gt.set 0 (.int .i64 rc)).set 1 (.slice sa sn sc))
      have R2 := hide ((hL2.rs.setOther ⟨gb, 0, none⟩ (.int .i64 rc) (by have := hL.out.lo; show w.heap.size ≠ gb; omega)).setOther ⟨gb, 1, none⟩ (.slice sa sn sc) (by have := hL.out.lo; show w.heap.size ≠ gb; omega))
      clear c0 c1 z0 z1 hL2 hb2 hr2
      have FINB := hide (hL.out.fin hb2' hr2' (.int .i64 rc) (.slice sa sn sc))
      have NEXT := hide (fun (h : rc = 0) => hL.out.put hb2' hr2' (hgd.out.ok h))
      clear hL hb2' hr2' B0 KEEP HGA
      generalize hWW : (w2.setCell ⟨gb, 0, none⟩ (.int .i64 rc)).setCell ⟨gb, 1, none⟩ (.slice sa sn sc) = WW at *
      have q0 := (unhide G2).cell 0
      have q1 := (unhide G2).cell 1
      have p0 := (unhide R2).cell 0
      have p1 := (unhide R2).cell 1
      have y0 := (unhide R2).frozen 0
      have y1 := (unhide R2).frozen 1
      simp only [List.set_cons_zero, List.set_cons_succ, List.getElem?_cons_zero, List.getElem?_cons_succ] at q0 q1 p0 p1
      by_cases hz : rc = 0
      · subst hz
        have N := hide ((unhide NEXT) rfl)
        have E := hide ((unhide hgs2) rfl)
        rw [hWW] at N
        clear hWW NEXT FINB hgs2 hstop hgd
        go_wp2_with fail
        go_roundg (cs.length - (k + 1))
        case rel => exact ⟨k + 1, rl, sa, sn, sc, rfl, by go_num, by omega, unhide E, unhide N⟩
        case measure => have := hg.out; omega
      · have E := hide ((unhide hstop) hz)
        have hz' : (rc == 0) = false := by simp [hz]
        have F := hide ((unhide FINB) (.int .i64 rc) (.slice sa sn sc))
        clear hWW NEXT FINB hgs2 hstop hgd hz
        go_wp2_with fail
        refine bodyPost_ret (v := .agg #[.int .i64 rc, .slice sa sn sc]) (by simp [results, Try.results40, go_sem, p0, p1]) rfl (ans_of (unhide E) (unhide F).1 (unhide F).2)
    · have hke : k = cs.length := by omega
      have E := hide (show Pth.getS v cs = (0, u) by have := hgs.out; rwa [hke, List.take_length] at this)
      have D := hide (fun x y => hL.out.done x y hL.out.apart)
      have q0 := hL.out.gt.cell 0
      have q1 := hL.out.gt.cell 1
      have p0 := hL.out.rs.cell 0
      have p1 := hL.out.rs.cell 1
      have y0 := hL.out.rs.frozen 0
      have y1 := hL.out.rs.frozen 1
      simp only [List.getElem?_cons_zero, List.getElem?_cons_succ] at q0 q1 p0 p1
      clear hke hgs hL
      go_wp2_with fail
      refine bodyPost_ret (v := .agg #[.int .i64 0, .slice ua un uc]) (by simp [results, Try.results40, go_sem, p0, p1]) rfl (ans_of (unhide E) ((unhide D) _ _).1 ((unhide D) _ _).2)
end Go.Proofs.Ytheofnndigpjpaa
