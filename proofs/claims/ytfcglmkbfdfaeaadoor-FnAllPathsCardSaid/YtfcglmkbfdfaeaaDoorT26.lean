/-
  impl.GetPath and spec.GetPath.
  impl.GetPath and spec.GetPath, whole.
-/
import Derived.Test.YtfcglmkbfdfaeaaDoorT17
import Derived.Test.YtfcglmkbfdfaeaaDoorT24
import Derived.Test.YtfcglmkbfdfaeaaDoorT25
import Derived.Deep.Cut
import Derived.Deep.CutRange
import Derived.Deep.RegionHeld
namespace Go.Proofs.YtfcglmkbfdfaeaaDoor
open Go.RowKit
set_option linter.unusedVariables false

theorem Res.rowedQ {w : World} {B : Nat} {s : Value} {l : List M.Cl} (h : Res w B s l) (hne : l ≠ []) : ∃ b cap, s = .slice (some ⟨b, 0, none⟩) l.length cap ∧ l.length ≤ cap ∧ B ≤ b ∧ b < w.heap.size ∧ Row w b 0 l := by
  obtain ⟨_, ⟨_, h2⟩ | ⟨c, cc, h3, h4, h5, h6⟩⟩ := h
  · exact absurd h2 hne
  · exact ⟨c, cc, h3, h5, h4, h6.lt, h6.row⟩
theorem Pth.val_ne {v : List M.Cl} (h : M.valueFault v = 0) : v ≠ [] := by intro e; have := (Pth.lens h).1; rw [e] at this; simp at this
theorem Pth.ga {u : List M.Cl} {c : M.Cl} (hu : M.valueFault u = 0) (hc : Pth.Stp c) : gaOut u [c] = atIn u c := ga_ok (by unfold bothOut; rw [if_neg (by simp [hu])]; exact hc.val)

/-- What lies in memory while the steps of a path are gone: the answer's own block, and the block of what was got. -/
structure Pth.Lg (w wr : World) (gb : Nat) (sv : Value) (u : List M.Cl) : Prop where
  bel : Below w.heap.size w wr
  rs : Own wr w.heap.size 31 [.int .i64 0, .slice none 0 0]
  gt : Own wr gb 31 [.int .i64 0, sv]
  lo : w.heap.size < gb
  rv : Res wr w.heap.size sv u
  va : M.valueFault u = 0
theorem Pth.Lg.start {w w1 : World} {sv : Value} {v : List M.Cl} (hv : M.valueFault v = 0) (hb : Below (w.heap.size + 1) (w.alloc (.cells #[.int .i64 0, .slice none 0 0] 31)) w1) (hr : Res w1 (w.heap.size + 1) sv v) : Pth.Lg w (w1.alloc (.cells #[.int .i64 0, sv] 31)) w1.heap.size sv v := by
  have hsz := hb.size
  simp only [World.size_alloc] at hsz
  refine ⟨(((Below.refl _ _).alloc (Nat.le_refl _) _).trans (hb.mono (by omega))).alloc (by omega) _, ?_, ⟨_, heap_alloc_new _ _, rfl⟩, by omega, (hr.alloc _).mono (by omega), hv⟩
  exact Own.alloc (Own.below ⟨_, heap_alloc_new _ _, rfl⟩ hb (by omega)) _
theorem Pth.Lg.call {w wr w2 : World} {gb : Nat} {sv : Value} {u : List M.Cl} (h : Pth.Lg w wr gb sv u) (hb : Below wr.heap.size wr w2) : Pth.Lg w w2 gb sv u :=
  ⟨h.bel.trans (hb.mono h.bel.size), h.rs.below hb h.rs.lt, h.gt.below hb h.gt.lt, h.lo, h.rv.below hb, h.va⟩
theorem Pth.Lg.put {w wr w2 : World} {gb : Nat} {sv s2 : Value} {u u2 : List M.Cl} (h : Pth.Lg w wr gb sv u) (hb : Below wr.heap.size wr w2) (hr : Res w2 wr.heap.size s2 u2) (hv : M.valueFault u2 = 0) : Pth.Lg w ((w2.setCell ⟨gb, 0, none⟩ (.int .i64 0)).setCell ⟨gb, 1, none⟩ s2) gb s2 u2 := by
  have h2 := h.call hb
  have hne : ∀ b, s2.ownBlock = some b → b ≠ gb := fun b hq => by have := hr.base b hq; have := h.gt.lt; omega
  have hl := h.lo
  refine ⟨(h2.bel.setCell (by show w.heap.size ≤ gb; omega) _).setCell (by show w.heap.size ≤ gb; omega) _, (h2.rs.setOther _ _ (by simp; omega)).setOther _ _ (by simp; omega), ?_, hl, ((hr.mono h.bel.size).setOther _ _ hne).setOther _ _ hne, hv⟩
  have := (h2.gt.set 0 (.int .i64 0)).set 1 s2
  simpa using this
/-- A code was met: what was got is put as the answer. -/
theorem Pth.Lg.fin {w wr w2 : World} {gb : Nat} {sv s2 : Value} {u u2 : List M.Cl} (h : Pth.Lg w wr gb sv u) (hb : Below wr.heap.size wr w2) (hr : Res w2 wr.heap.size s2 u2) (x y x' y' : Value) :
    Res ((((w2.setCell ⟨gb, 0, none⟩ x).setCell ⟨gb, 1, none⟩ y).setCell ⟨w.heap.size, 0, none⟩ x').setCell ⟨w.heap.size, 1, none⟩ y') w.heap.size s2 u2 ∧ Below w.heap.size w ((((w2.setCell ⟨gb, 0, none⟩ x).setCell ⟨gb, 1, none⟩ y).setCell ⟨w.heap.size, 0, none⟩ x').setCell ⟨w.heap.size, 1, none⟩ y') := by
  have h2 := h.call hb
  have hl := h.lo
  have hne : ∀ b, s2.ownBlock = some b → b ≠ gb := fun b hq => by have := hr.base b hq; have := h.gt.lt; omega
  have hne2 : ∀ b, s2.ownBlock = some b → b ≠ w.heap.size := fun b hq => by have := hr.base b hq; have := h.rs.lt; omega
  exact ⟨((((hr.mono h.bel.size).setOther _ _ hne).setOther _ _ hne).setOther _ _ hne2).setOther _ _ hne2, (((h2.bel.setCell (by show w.heap.size ≤ gb; omega) _).setCell (by show w.heap.size ≤ gb; omega) _).setCell (Nat.le_refl _) _).setCell (Nat.le_refl _) _⟩
theorem Pth.Lg.done {w wr : World} {gb : Nat} {sv : Value} {u : List M.Cl} (h : Pth.Lg w wr gb sv u) (x' y' : Value) (hne2 : ∀ b, sv.ownBlock = some b → b ≠ w.heap.size) :
    Res ((wr.setCell ⟨w.heap.size, 0, none⟩ x').setCell ⟨w.heap.size, 1, none⟩ y') w.heap.size sv u ∧ Below w.heap.size w ((wr.setCell ⟨w.heap.size, 0, none⟩ x').setCell ⟨w.heap.size, 1, none⟩ y') :=
  ⟨(h.rv.setOther _ _ hne2).setOther _ _ hne2, (h.bel.setCell (Nat.le_refl _) _).setCell (Nat.le_refl _) _⟩
theorem Pth.Lg.apart {w wr : World} {gb : Nat} {sv : Value} {u : List M.Cl} (h : Pth.Lg w wr gb sv u) : ∀ b, sv.ownBlock = some b → b ≠ w.heap.size := by
  intro b hq e
  subst e
  obtain ⟨_, ⟨h1, h2⟩ | ⟨c, cc, h3, h4, h5, ⟨xs, h6, _⟩⟩⟩ := h.rv
  · exact Pth.val_ne h.va h2
  · rw [h3] at hq
    simp only [Value.ownBlock, Option.some.injEq] at hq
    subst hq
    obtain ⟨c1, q1, _⟩ := h.rs
    obtain ⟨c2, q2, _⟩ := h6
    rw [q1] at q2
    simp at q2

set_option maxRecDepth 100000 in
set_option maxHeartbeats 1000000 in
theorem getSteps_any (v : List M.Cl) (b off cap : Nat) (cs : List M.Cl) (b' o cap' : Nat) (w : World) (hv : M.valueFault v = 0) (hrow : Row w b off v) (hb : b < w.heap.size) (hcap : v.length ≤ cap) (hs : ∀ c ∈ cs, Pth.Stp c) (hrow' : Row w b' o cs) (hb' : b' < w.heap.size) (hn' : cs.length ≤ 200) (hcap' : cs.length ≤ cap') (hc : cap' ≤ 9223372036854775807) :
    Calls Tryd.prog 20 #[.slice (some ⟨b, off, none⟩) v.length cap, .slice (some ⟨b', o, none⟩) cs.length cap'] w (Ans w (Pth.getS v cs)) := by
  have HC := hide (fun w' r hb'' => clone_any v b off cap w' r hb'' (by have := (Pth.lens hv).2; omega))
  have HV := hide hv
  have HS := hide hs
  have HR' := hide hrow'
  have B0 : ∀ o, Below w.heap.size w (w.alloc o) := fun o => (Below.refl _ _).alloc (Nat.le_refl _) o
  have R0 := hide (fun x => hrow.below (B0 x) hb)
  clear hv hs hrow hrow' B0
  go_enter Tryd.func20, Tryd.ntmps20
  go_wp2_with fail
  refine ((unhide HC) _ ((unhide R0) _) (by simp; omega)).mono ?_
  rintro e w1 ⟨sv, rfl, hr1, hb1⟩
  simp only [World.size_alloc] at hr1 hb1
  obtain ⟨va, vn, vc, rfl⟩ := hr1.shape
  have L0 := hide (Pth.Lg.start (unhide HV) hb1 hr1)
  generalize hgb : w1.heap.size = gb at *
  clear hr1 hb1 HC R0
  go_wp2_with fail
  generalize w1.alloc (.cells #[.int .i64 0, .slice va vn vc] 31) = w3 at *
  clear hgb w1
  go_loopg [12] cs.length (fun g s12 wr => ∃ (k : Nat) (u : List M.Cl) (ua : Option Addr) (un uc : Nat), Hid (g = cs.length - k) ∧ s12 = .int .i64 k ∧ k ≤ cs.length ∧ Hid (Pth.getS v (cs.take k) = (0, u)) ∧ Hid (Pth.Lg w wr gb (.slice ua un uc) u))
  case atStart => exact ⟨0, v, va, vn, vc, rfl, rfl, by omega, by rw [List.take_zero]; rfl, unhide L0⟩
  case round =>
    clear L0
    obtain ⟨k, u, ua, un, uc, hg, rfl, hk, hgs, hL⟩ := hrel
    by_cases hlt : k < cs.length
    · have hst := (unhide HS) _ (getD_mem cs k hlt)
      have hgs2 := hide (fun h => Pth.get_take hlt hgs.out (cs := cs) |>.trans (if_pos h))
      have hstop := hide (fun h => Pth.get_stop hlt hgs.out (cs := cs) h)
      have hu := hL.out.va
      obtain ⟨ub, ucp, hsh, huc, hul, hub, hur⟩ := hL.out.rv.rowedQ (Pth.val_ne hu)
      simp only [Value.slice.injEq] at hsh
      obtain ⟨rfl, rfl, rfl⟩ := hsh
      have hrc : Row wr b' (o + k * 5) [cs.getD k M.zero] := by
        intro i hi
        have hi0 : i = 0 := by simp at hi; exact hi
        subst hi0
        exact ((unhide HR').below hL.out.bel hb') k hlt
      have hlen := (Pth.lens hu).2
      have hb2 : b' < wr.heap.size := Nat.lt_of_lt_of_le hb' hL.out.bel.size
      have hga := hide (Pth.ga hu hst)
      have HGA := hide (fun W (hW : Below wr.heap.size wr W) => implGetAt_any u ub 0 uc [cs.getD k M.zero] b' (o + k * 5) (cap' - k) W (hur.below hW hub) (Nat.lt_of_lt_of_le hub hW.size) (by omega) huc (Pth.oks hu) (hrc.below hW hb2) (Nat.lt_of_lt_of_le hb2 hW.size) (by simp) (by simp; omega) (Pth.oks hst.val))
      rw [unhide hga] at HGA
      have hgd := hide (Pth.at_gd hu (cs.getD k M.zero))
      clear hga hrc hst hur hul hgs
      generalize cs.getD k M.zero = c at *
      generalize hR : atIn u c = R at *
      clear hR
      obtain ⟨rc, rl⟩ := R
      simp only at hgs2 hstop hgd
      have g1 := hL.out.gt.cell 1
      simp only [List.getElem?_cons_zero, List.getElem?_cons_succ] at g1
      have B0 := Below.refl wr.heap.size wr
      have KEEP := hide (show ∀ W, Below wr.heap.size wr W → W.cell? ⟨gb, 1, none⟩ = some (.slice (some ⟨ub, 0, none⟩) u.length uc) ∧ Below wr.heap.size wr W from fun W hW => ⟨(hW.cell hL.out.gt.lt).trans g1, hW⟩)
      clear g1
      have s0 : (0 : Int) ≤ (k : Int) := by omega
      have s1 : (k : Int) ≤ (k : Int) + 1 := by omega
      have s2 : (k : Int) + 1 ≤ (cap' : Int) := by omega
      have s3 : IntKind.i64.wrap ((k : Int) + 1) = (k : Int) + 1 := IntWalk.i64_in _ ⟨by omega, by omega⟩
      have s4 : k < cap' := by omega
      go_upto_region 5 with fail
      refine Z.region 8 (fun w' => Below wr.heap.size wr w') (by kernel_rfl) B0.drew (fun hHeld => ?_)
      refine Z.take (i := 0) (d := 15) (v := .pointer (some ⟨gb, 1, none⟩)) rfl rfl (by kernel_rfl) (by kernel_rfl) (by kernel_rfl) (by kernel_rfl) (fun _ _ _ h => h) (Or.inl ⟨by rfl, ?_⟩) hHeld ?_
      · intro w' hSw; go_simp
      simp only [Act.put, List.setIfInBounds_toArray, List.set_cons_zero, List.set_cons_succ]
      refine Z.take (i := 1) (d := 16) (v := .slice (some ⟨ub, 0, none⟩) u.length uc) rfl rfl (by kernel_rfl) (by kernel_rfl) (by kernel_rfl) (by kernel_rfl) (fun _ _ _ h => h) (Or.inl ⟨by rfl, ?_⟩) hHeld ?_
      · intro w' hSw; have g1 := ((unhide KEEP) _ hSw).1; go_simp
      simp only [Act.put, List.setIfInBounds_toArray, List.set_cons_zero, List.set_cons_succ]
      refine Z.take (i := 2) (d := 17) (v := .slice (some ⟨b', o, none⟩) cs.length cap') rfl rfl (by kernel_rfl) (by kernel_rfl) (by kernel_rfl) (by kernel_rfl) (fun _ _ _ h => h) (Or.inl ⟨by rfl, ?_⟩) hHeld ?_
      · intro w' hSw; go_simp
      simp only [Act.put, List.setIfInBounds_toArray, List.set_cons_zero, List.set_cons_succ]
      refine Z.take (i := 3) (d := 18) (v := .int .i64 (k : Int)) rfl rfl (by kernel_rfl) (by kernel_rfl) (by kernel_rfl) (by kernel_rfl) (fun _ _ _ h => h) (Or.inl ⟨by rfl, ?_⟩) hHeld ?_
      · intro w' hSw; go_simp
      simp only [Act.put, List.setIfInBounds_toArray, List.set_cons_zero, List.set_cons_succ]
      refine Z.take (i := 4) (d := 19) (v := .int .i64 (k : Int)) rfl rfl (by kernel_rfl) (by kernel_rfl) (by kernel_rfl) (by kernel_rfl) (fun _ _ _ h => h) (Or.inl ⟨by rfl, ?_⟩) hHeld ?_
      · intro w' hSw; go_simp
      simp only [Act.put, List.setIfInBounds_toArray, List.set_cons_zero, List.set_cons_succ]
      refine Z.take (i := 5) (d := 20) (v := .int .i64 ((k : Int) + 1)) rfl rfl (by kernel_rfl) (by kernel_rfl) (by kernel_rfl) (by kernel_rfl) (fun _ _ _ h => h) (Or.inl ⟨by rfl, ?_⟩) hHeld ?_
      · intro w' hSw; go_simp
      simp only [Act.put, List.setIfInBounds_toArray, List.set_cons_zero, List.set_cons_succ]
      refine Z.take (i := 6) (d := 21) (v := .slice (some ⟨b', o + k * 5, none⟩) 1 (cap' - k)) rfl rfl (by kernel_rfl) (by kernel_rfl) (by kernel_rfl) (by kernel_rfl) (fun _ _ _ h => h) (Or.inl ⟨by rfl, ?_⟩) hHeld ?_
      · intro w' hSw; go_simp; omega
      simp only [Act.put, List.setIfInBounds_toArray, List.set_cons_zero, List.set_cons_succ]
      refine Z.only (i := 7) (d := 22) rfl rfl (by kernel_rfl) (by rfl) (fun K hK => ?_)
      go_simp
      refine ((unhide HGA) _ B0.drew).mono ?_
      rintro e w2 ⟨s2, rfl, hr2, hb2⟩
      have hb2' : Below wr.heap.size wr w2 := B0.drew.trans (hb2.mono (Nat.le_refl _))
      go_simp
      refine hK.out (.agg #[.int .i64 rc, s2]) _ hb2' ?_
      clear hK K
      simp only [Act.put, List.setIfInBounds_toArray, List.set_cons_zero, List.set_cons_succ]
      have hL2 := hL.out.call hb2'
      have c0 := hL2.gt.cell 0
      have c1 := hL2.gt.cell 1
      have z0 := hL2.gt.frozen 0
      have z1 := hL2.gt.frozen 1
      simp only [List.getElem?_cons_zero, List.getElem?_cons_succ] at c0 c1
      have hr2' : Res w2 wr.heap.size s2 rl := hr2
      obtain ⟨sa, sn, sc, rfl⟩ := hr2'.shape
      refine Z.last_at (w' := (w2.setCell ⟨gb, 0, none⟩ (.int .i64 rc)).setCell ⟨gb, 1, none⟩ (.slice sa sn sc)) rfl (by kernel_rfl) (by rfl) (fun K hK => ?_) ?_
      · go_simp
        exact hK.out
      refine Z.done (by kernel_rfl) ?_ _
      have G2 := hide ((hL2.gt.set 0 (.int .i64 rc)).set 1 (.slice sa sn sc))
      have R2 := hide ((hL2.rs.setOther ⟨gb, 0, none⟩ (.int .i64 rc) (by have := hL.out.lo; show w.heap.size ≠ gb; omega)).setOther ⟨gb, 1, none⟩ (.slice sa sn sc) (by have := hL.out.lo; show w.heap.size ≠ gb; omega))
      clear c0 c1 z0 z1 hL2 hb2 hr2
      have FINB := hide (hL.out.fin hb2' hr2' (.int .i64 rc) (.slice sa sn sc))
      have NEXT := hide (fun (h : rc = 0) => hL.out.put hb2' hr2' (hgd.out.ok h))
      clear hL hb2' hr2' B0 KEEP HGA
      generalize hWW : (w2.setCell ⟨gb, 0, none⟩ (.int .i64 rc)).setCell ⟨gb, 1, none⟩ (.slice sa sn sc) = WW at *
      have q0 := (unhide G2).cell 0
      have q1 := (unhide G2).cell 1
      have p0 := (unhide R2).cell 0
      have p1 := (unhide R2).cell 1
      have y0 := (unhide R2).frozen 0
      have y1 := (unhide R2).frozen 1
      simp only [List.set_cons_zero, List.set_cons_succ, List.getElem?_cons_zero, List.getElem?_cons_succ] at q0 q1 p0 p1
      by_cases hz : rc = 0
      · subst hz
        have N := hide ((unhide NEXT) rfl)
        have E := hide ((unhide hgs2) rfl)
        rw [hWW] at N
        clear hWW NEXT FINB hgs2 hstop hgd
        go_wp2_with fail
        go_roundg (cs.length - (k + 1))
        case rel => exact ⟨k + 1, rl, sa, sn, sc, rfl, by go_num, by omega, unhide E, unhide N⟩
        case measure => have := hg.out; omega
      · have E := hide ((unhide hstop) hz)
        have hz' : (rc == 0) = false := by simp [hz]
        have F := hide ((unhide FINB) (.int .i64 rc) (.slice sa sn sc))
        clear hWW NEXT FINB hgs2 hstop hgd hz
        go_wp2_with fail
        refine bodyPost_ret (v := .agg #[.int .i64 rc, .slice sa sn sc]) (by simp [results, Tryd.results20, go_sem, p0, p1]) rfl (ans_of (unhide E) (unhide F).1 (unhide F).2)
    · have hke : k = cs.length := by omega
      have E := hide (show Pth.getS v cs = (0, u) by have := hgs.out; rwa [hke, List.take_length] at this)
      have D := hide (fun x y => hL.out.done x y hL.out.apart)
      have q0 := hL.out.gt.cell 0
      have q1 := hL.out.gt.cell 1
      have p0 := hL.out.rs.cell 0
      have p1 := hL.out.rs.cell 1
      have y0 := hL.out.rs.frozen 0
      have y1 := hL.out.rs.frozen 1
      simp only [List.getElem?_cons_zero, List.getElem?_cons_succ] at q0 q1 p0 p1
      clear hke hgs hL
      go_wp2_with fail
      refine bodyPost_ret (v := .agg #[.int .i64 0, .slice ua un uc]) (by simp [results, Tryd.results20, go_sem, p0, p1]) rfl (ans_of (unhide E) ((unhide D) _ _).1 ((unhide D) _ _).2)

end Go.Proofs.YtfcglmkbfdfaeaaDoor

namespace Go.Proofs.YtfcglmkbfdfaeaaDoor
open Go.RowKit
set_option linter.unusedVariables false

set_option maxRecDepth 100000 in
set_option maxHeartbeats 1000000 in
theorem implGetPath_any (v : List M.Cl) (b off cap : Nat) (p : List M.Cl) (b' off' cap' : Nat) (w : World) (hrow : Row w b off v) (hb : b < w.heap.size) (hn : v.length ≤ 1048576) (hcap : v.length ≤ cap) (hok : ∀ c ∈ v, c.ok) (hrow' : Row w b' off' p) (hb' : b' < w.heap.size) (hn' : p.length ≤ 1048576) (hcap' : p.length ≤ cap') (hc : cap' ≤ 9223372036854775807) (hok' : ∀ c ∈ p, c.ok) :
    Calls Tryd.prog 9 #[.slice (some ⟨b, off, none⟩) v.length cap, .slice (some ⟨b', off', none⟩) p.length cap'] w (Ans w (Pth.getOutP v p)) := by
  have B0 : ∀ o, Below w.heap.size w (w.alloc o) := fun o => (Below.refl _ _).alloc (Nat.le_refl _) o
  have HA := hide (fun x => pathedFault_any v b off cap p b' off' cap' (w.alloc x) (hrow.below (B0 x) hb) (by simp; omega) hn hcap hok (hrow'.below (B0 x) hb') (by simp; omega) hn' hcap' hc hok')
  have HB0 := hide B0
  clear B0 hok hok'
  go_enter Tryd.func9, Tryd.ntmps9
  go_wp2_with fail
  refine ((unhide HA) _).mono ?_
  rintro e1 w1 ⟨rfl, hb1⟩
  have hR : Own w1 w.heap.size 31 [.int .i64 0, .slice none 0 0] := Own.below ⟨_, heap_alloc_new _ _, rfl⟩ hb1 (by simp)
  have B1 : Below w.heap.size w w1 := ((unhide HB0) _).trans (hb1.mono (by simp))
  have hrow1 := hrow.below B1 hb
  have hb1' : b < w1.heap.size := Nat.lt_of_lt_of_le hb B1.size
  have hrow2 := hrow'.below B1 hb'
  have hb2' : b' < w1.heap.size := Nat.lt_of_lt_of_le hb' B1.size
  clear hb1 HA hrow hrow'
  generalize hq : Pth.asked v p = q
  by_cases hz : q = 0
  · subst hz
    have fin := hide (Pth.getP_ok hq)
    obtain ⟨hv, hp⟩ := Pth.asked_no hq
    have hst := (Pth.steps hp).2.2
    have hpv := (Pth.fault_no hp).1
    have hpl := Pth.lens hpv
    have HD := hide (List.length_drop (i := 1) (l := p))
    have HSO := hide (stepsOf_any p b' off' cap' w1 hpl.1 hc hcap' hrow2)
    have HG := hide (fun o (r : Row w1 b' o (p.drop 1)) => getSteps_any v b off cap (p.drop 1) b' o (cap' - 1) w1 hv hrow1 hb1' hcap hst r hb2' (by rw [unhide HD]; omega) (by rw [unhide HD]; omega) (by omega))
    clear hq hv hp hst hpv hpl hrow1 hrow2 HD
    generalize hR2 : Pth.getS v (p.drop 1) = R at *
    obtain ⟨rc, rl⟩ := R
    clear hR2
    generalize p.drop 1 = cs at *
    go_wp2_with fail
    refine (unhide HSO).mono ?_
    rintro e2 w2 ⟨o, rfl, hw2, hr2⟩
    rw [hw2]
    have HGO := hide ((unhide HG) o hr2)
    clear hw2 w2 hr2 HG HSO
    go_wp2_with fail
    refine (unhide HGO).mono ?_
    rintro ec wc ⟨sc, rfl, hrc, hbc⟩
    have hRc := hR.below hbc hR.lt
    have r0 := hRc.cell 0
    have r1 := hRc.cell 1
    have z0 := hRc.frozen 0
    have z1 := hRc.frozen 1
    simp only [List.getElem?_cons_zero, List.getElem?_cons_succ] at r0 r1
    have HE := hide (Ans.store hrc B1 hR.lt hbc)
    obtain ⟨ac, mc, cc, rfl⟩ := hrc.shape
    clear hrc hbc
    go_wp2_with fail
    refine bodyPost_ret (v := .agg #[.int .i64 rc, .slice ac mc cc]) (by simp [results, Tryd.results9, go_sem, r0, r1]) rfl (ans_of (unhide fin) ((unhide HE) _ _).1 ((unhide HE) _ _).2)
  · have fin := hide ((Pth.getP_bad (by rw [hq]; exact hz)).trans (by rw [hq]))
    have hz' : (q == 0) = false := by simp [hz]
    have r0 := hR.cell 0
    have r1 := hR.cell 1
    have z0 := hR.frozen 0
    have z1 := hR.frozen 1
    simp only [List.getElem?_cons_zero, List.getElem?_cons_succ] at r0 r1
    clear hq hrow1 hrow2
    go_wp2_with fail
    refine bodyPost_ret (v := .agg #[.int .i64 q, .slice none 0 0]) (by simp [results, Tryd.results9, go_sem, r0, r1]) rfl (ans_of (unhide fin) (resNil _ _) (store_below B1 _ _))

end Go.Proofs.YtfcglmkbfdfaeaaDoor
