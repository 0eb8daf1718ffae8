/-
  impl.newCells; impl.layBehind: a tree is laid behind a list.
-/
import Derived.Test.YtbaanpgbfncdnaaGreatQ10
import Derived.Test.YtbaanpgbfncdnaaGreatQ40
import Derived.Deep.LoopGhost
import Derived.Deep.RegionHeld3
import Derived.Laws.AppendOwnNone
import Derived.Maps.AppendAt
namespace Go.Proofs.YtbaanpgbfncdnaaGreat
open Go.RowKit
set_option linter.unusedVariables false
set_option linter.unusedSimpArgs false

theorem Ste.addr_add {b : Nat} (j : Nat) : (⟨b, 0, none⟩ : Addr).add j = ⟨b, j, none⟩ := by unfold Addr.add; split <;> simp_all
theorem Ste.infoCore : (Tryz.prog.info? 47).map (fun i => (i.zero, i.size, i.bytes)) = some (some (.agg #[.int .i64 0, .int .i64 0, .int .i64 0, .int .i64 0, .int .i64 0, .slice none 0 0]), 6, 64) := by kernel_rfl
set_option maxRecDepth 100000 in
set_option maxHeartbeats 4000000 in
theorem stemCells_some (g cap : Nat) (l : List M.Cl) (w : World) (hrow : Row w g 0 l) (hg : g < w.heap.size) (hn : l.length ≤ 1048576) :
    Calls Tryz.prog 66 #[.slice (some ⟨g, 0, none⟩) l.length cap] w fun e w' => ∃ x, e = .returned x ∧ Res w' w.heap.size x l ∧ Below w.heap.size w w' := by
  obtain ⟨i1, hi1, hy0, hy1, hy2⟩ := info_parts Tryz.info71
  have HN := hide (row_words hrow)
  have HO := hide (World.ownsRow_nil w w.heap.size 71 5)
  have HP := hide (flat_one l)
  have HL := hide (flat_length l)
  have hb63 : 0 + l.length ≤ maxLen := by unfold maxLen; omega
  have hby : (0 + l.length) * 56 ≤ 140737488355328 := by omega
  clear hrow
  go_enter Tryz.func66, Tryz.ntmps66
  go_wp2_with (at_builtin; refine wpList_append_own _ rfl (.const (.slice none 0 0)) (.tmp 3) 45 rfl w.heap.size 71 i1 _ 5 56 Tryz.underlying45 hi1 hy0 hy1 hy2 rfl (by decide) _ 0 [] rfl (unhide HO) ⟨g, 0, none⟩ l.length cap (flat l) rfl (unhide HL) (unhide HN) (unhide HP) hb63 hby (Nat.le_refl _) ?_)
  intro x wA ho hgr _
  try rw [Nat.zero_add] at ho
  try rw [List.nil_append] at ho
  have BA : Below w.heap.size w wA := (Below.refl w.heap.size w).grown hgr (Nat.le_refl _) (fun k hk => by cases hk)
  have RA : Res wA w.heap.size x l := res_of_owns ho (by omega)
  obtain ⟨xa, xn, xc, rfl⟩ := RA.shape
  have FIN := hide (And.intro RA BA)
  clear ho hgr BA RA HN HO HP HL
  go_wp2_with fail
  go_ret
  exact ⟨_, rfl, (unhide FIN).1, (unhide FIN).2⟩
set_option maxRecDepth 100000 in
set_option maxHeartbeats 4000000 in
theorem stemCells_none (w : World) : Calls Tryz.prog 66 #[.slice none 0 0] w fun e w' => e = .returned (.slice none 0 0) ∧ w' = w := by
  obtain ⟨i1, hi1, hy0, hy1, hy2⟩ := info_parts Tryz.info71
  have HO := hide (World.ownsRow_nil w w.heap.size 71 5)
  go_enter Tryz.func66, Tryz.ntmps66
  go_wp2_with (at_builtin; refine wpList_append_own_none rfl (.const (.slice none 0 0)) (.tmp 3) 45 rfl w.heap.size 71 i1 5 Tryz.underlying45 hi1 _ 0 [] rfl (unhide HO) rfl ?_)
  go_wp2_with fail
  go_ret
  exact ⟨rfl, rfl⟩
theorem stemCells_any {B : Nat} {vv : Value} {l : List M.Cl} (w : World) (h : Res w B vv l) : Calls Tryz.prog 66 #[vv] w fun e w' => ∃ x, e = .returned x ∧ Res w' w.heap.size x l ∧ Below w.heap.size w w' := by
  obtain ⟨hn, ⟨h1, h2⟩ | ⟨b, cap, h1, h2, h3, h4⟩⟩ := h
  · subst h1; subst h2
    refine (stemCells_none w).mono ?_
    rintro e w' ⟨h1, h2⟩
    subst h2
    exact ⟨_, h1, ⟨by simp, .inl ⟨rfl, rfl⟩⟩, Below.refl _ _⟩
  · subst h1
    exact stemCells_some b cap l w h4.row h4.lt hn
set_option maxRecDepth 100000 in
set_option maxHeartbeats 4000000 in
theorem layBehind_any (base : Nat) (s : Ste) : ∀ (w : World) (p : Nat) (R : List Nat) (v : Value) (cs : List (Co × Value)), Ste.Sh w s p R → Lw.Rw w base v cs → (Lp.bls cs).Nodup → base ≤ w.heap.size → cs.length + Ste.sz s ≤ 2000 →
    Calls Tryz.prog 44 #[.pointer (some ⟨p, 0, none⟩), v] w (Ste.Lys base w v cs s) := by
  induction s using Ste.ind with
  | H s ih =>
  intro w p R v cs hS hrow hnd hbase h2000
  obtain ⟨i0, hi, hz0, hz1, hz2⟩ := info_parts Ste.infoCore
  have hsz := Ste.sz_ks s
  have hS0 := hS
  cases hS with
  | mk hP hR hN hS hE hD =>
  rename_i P Rs r
  subst hE
  obtain ⟨va, vc, rfl⟩ := hrow.slice
  obtain ⟨pa, cap, c6, hq⟩ := Ste.view hN
  rw [hP] at c6 hq
  obtain ⟨w0, hw0⟩ : ∃ w0, w.alloc (.cells #[.int .i64 0, .int .i64 0, .int .i64 0] 93) = w0 := ⟨_, rfl⟩
  have B0 : Below w.heap.size w w0 := by rw [← hw0]; exact (Below.refl _ _).alloc (Nat.le_refl _) _
  have hs0 : w0.heap.size = w.heap.size + 1 := by rw [← hw0]; simp
  have L0 := hide (show Ste.Ll base w w0 (.slice va cs.length vc) cs s w.heap.size 0 (.slice va cs.length vc) cs from
    ⟨hrow.below B0, by simp [Ste.layL], hnd, (Ste.Lf.refl _ _).behind B0 B0.size, by rw [← hw0]; exact ⟨_, heap_alloc_new _ _, rfl⟩⟩)
  have hpl := hS0.lt.1
  have c60 := (B0.cell (by exact hpl)).trans c6
  have HQ := hide hq
  have HSH := hide (fun (W : World) (hk : Ste.Kr (r ++ Rs.flatten) w W) => hS0.keep hk)
  have HPW := hide (fun (W : World) (hk : Ste.Kr (r ++ Rs.flatten) w W) => (Ste.Kr.nd hk hN (fun k q => List.mem_append_left _ q)))
  have HK := hide (fun (W : World) (v' : Value) (hf : Ste.Lf (.slice va cs.length vc) v' w W) => show Ste.Kr (r ++ Rs.flatten) w W from fun k c t h1 h2 => by
    refine hf.keep hrow h1 ?_
    rcases h2 with h2 | h2 | h2
    · rw [h2]; decide
    · rw [h2]; decide
    · obtain ⟨xs, c', q1, _⟩ := hS0.typed k h2
      rw [h1] at q1
      simp only [Option.some.injEq, Obj.cells.injEq] at q1
      rw [q1.2.1]; decide)
  have HIH := hide (fun k (hk : k ∈ s.ks) w p R v cs h1 h2 h3 h4 h5 => ih k hk w p R v cs h1 h2 h3 h4 h5)
  have HKID := hide (fun i (hi : i < s.ks.length) (W : World) (hk : Ste.Kr (r ++ Rs.flatten) w W) => (hS i hi).keep (hk.sub fun k q => List.mem_append_right _ (Ste.mem_flat q)))
  have HB := hide hbase
  obtain ⟨n, hn⟩ : ∃ n, n = s.ks.length := ⟨_, rfl⟩
  have hn3 : n ≤ 3 := by rw [hn]; exact Ste.ks_le s
  rw [← hn] at c60 HQ c6
  have HNN := hide hn
  have HPL := hide hP
  clear ih hP hR hN hS hD hq hS0 hrow hnd hn
  go_enter Tryz.func44, Tryz.ntmps44
  go_wp2_with fail
  go_loopg [1, 14] n (fun gh s1 s14 wr => ∃ (i : Nat) (v' : Value) (cs' : List (Co × Value)), Hid (gh = n - i) ∧ s14 = .int .i64 (i : Int) ∧ i ≤ n ∧ s1 = v' ∧ Hid (Ste.Ll base w wr (.slice va cs.length vc) cs s w.heap.size i v' cs'))
  case atStart => exact ⟨0, _, cs, rfl, rfl, by omega, rfl, unhide L0⟩
  case round =>
    clear L0
    obtain ⟨i, v', cs', hg, rfl, hin, rfl, HL⟩ := hrel
    have hKr := (unhide HK) wr _ (unhide HL).fr
    have hsw := (unhide HL).fr.size
    by_cases hlt : i < n
    · have hltI : (i : Int) < (n : Int) := by omega
      have hi0 : (0 : Int) ≤ (i : Int) := by omega
      have hi3 : (i : Int) < 3 := by omega
      have hil : i < s.ks.length := by rw [← unhide HNN]; exact hlt
      obtain ⟨q, hr, ha⟩ := (unhide HQ) (by omega)
      subst ha
      have hNd := (unhide HPW) wr hKr
      have ci : wr.cell? ⟨q, i, none⟩ = some (.pointer (some ⟨P.getD i 0, 0, none⟩)) := by
        obtain ⟨a, b, c, vv, pv, _, _, h3⟩ := hNd
        have hPP := unhide HPL
        rcases h3 with ⟨_, e, _⟩ | ⟨q', cap', xs, e1, e2, e3, e4, e5⟩
        · rw [e] at hPP; simp at hPP; omega
        · rw [hr] at e3
          obtain rfl : q = q' := by simpa using e3
          exact (e4.cell i).trans (e5 i (by omega))
      have hmem := Ste.g_mem hil
      have hle := Ste.szL_take_succ s.ks i hil
      have hle2 := Ste.szL_take_le s.ks (i + 1)
      have hlen := (unhide HL).len
      obtain ⟨va', vc', hv'⟩ := (unhide HL).row.slice
      have HC := hide ((unhide HIH) _ hmem wr _ _ _ cs' ((unhide HKID) i hil wr hKr) (unhide HL).row (unhide HL).nd (by have := unhide HB; omega) (by
        have e9 : Ste.g s.ks i = s.ks.getD i Ste.z := rfl
        rw [e9]; omega))
      have HST := hide (fun (w1 : World) (v1 : Value) (cs1 : List (Co × Value)) h1 h2 h3 h4 => (unhide HL).step (w1 := w1) (v1 := v1) (cs1 := cs1) hil (by have := unhide HB; omega) h1 h2 h3 h4 (Nat.le_refl _))
      have hcl1 : ∀ cs1 : List (Co × Value), cs1.map Prod.fst = cs'.map Prod.fst ++ Ste.lay cs'.length (Ste.g s.ks i) → cs1.length ≤ 2000 := fun cs1 e => by
        have := congrArg List.length e
        rw [List.length_map, List.length_append, List.length_map, Ste.lay_len] at this
        have e9 : Ste.g s.ks i = s.ks.getD i Ste.z := rfl
        rw [e9] at this
        omega
      have HCL := hide hcl1
      subst hv'
      clear HL hNd hmem hle hle2 hlen hcl1 hKr
      generalize P.getD i 0 = pi at *
      go_wp2_with fail
      refine (unhide HC).mono ?_
      rintro e w1 ⟨v1, cs1, rfl, he1, hr1, hn1, hf1⟩
      obtain ⟨⟨u, cu⟩, zu, hL1⟩ := (unhide HST) w1 v1 cs1 he1 hr1 hn1 hf1
      have hc1 := (unhide HCL) cs1 he1
      obtain ⟨xa, xc, rfl⟩ := hr1.slice
      have HL1 := hide hL1
      clear he1 hr1 hn1 hf1 hL1 HC HST HCL
      go_wp2_with fail
      go_roundg (n - (i + 1))
      case rel => exact ⟨i + 1, _, cs1, rfl, by go_num, by omega, rfl, unhide HL1⟩
      case measure => have := hg.out; omega
    · have hltI : ¬ (i : Int) < (n : Int) := by omega
      have hie : i = n := by omega
      have hNd := (unhide HPW) wr hKr
      obtain ⟨na, nb, nc, vv, pv, o1, hres, _⟩ := hNd
      have HLL := hide (unhide HL)
      have hll : ∀ j, Ste.lnk cs.length s.ks i j = Ste.endAt cs.length s.ks j := fun j => by
        unfold Ste.lnk Ste.endAt
        rw [hie, unhide HNN]
        by_cases hj : j < s.ks.length
        · rw [if_pos hj, if_pos hj]
        · rw [if_neg hj, if_neg hj]
      have lk := (unhide HL).lk
      rw [hll 0, hll 1, hll 2] at lk
      have heq := (unhide HL).eq
      rw [hie, unhide HNN, List.take_length] at heq
      have hlen := congrArg List.length heq
      rw [List.length_map, List.length_append, List.length_map, Ste.layL_len] at hlen
      have HFIN := hide (Ste.lay_eq cs.length s)
      have HEQ := hide heq
      have hcl : cs'.length ≤ 2000 := by omega
      obtain ⟨va', vc', hv'⟩ := (unhide HL).row.slice
      subst hv'
      clear hlen hll heq hie
      have HOWN := hide o1
      obtain ⟨vva, vvn, vvc, hvv⟩ := hres.shape
      subst hvv
      generalize Ste.endAt cs.length s.ks 0 = e0 at *
      generalize Ste.endAt cs.length s.ks 1 = e1 at *
      generalize Ste.endAt cs.length s.ks 2 = e2 at *
      generalize s.hd = h0 at *
      obtain ⟨op, num, val⟩ := h0
      dsimp only at *
      have m0 := o1.cell 0
      have m1 := o1.cell 1
      have m2 := o1.cell 2
      have m3 := o1.cell 3
      have m4 := o1.cell 4
      have m5 := o1.cell 5
      simp only [List.getElem?_cons_zero, List.getElem?_cons_succ] at m0 m1 m2 m3 m4 m5
      obtain ⟨wn, hwn⟩ : ∃ wn, wr.alloc (.cells #[.int .i64 op, .int .i64 na, .int .i64 nb, .int .i64 nc, .int .i64 num, .slice vva vvn vvc] 47) = wn := ⟨_, rfl⟩
      have Bn : Below wr.heap.size wr wn := by rw [← hwn]; exact (Below.refl _ _).alloc (Nat.le_refl _) _
      have Nn : Own wn wr.heap.size 47 [.int .i64 op, .int .i64 na, .int .i64 nb, .int .i64 nc, .int .i64 num, .slice vva vvn vvc] := by rw [← hwn]; exact ⟨_, heap_alloc_new _ _, rfl⟩
      have Ln := lk.below Bn lk.lt
      have l0 := Ln.cell 0
      have l1 := Ln.cell 1
      have l2 := Ln.cell 2
      have n1 := Nn.cell 1
      have n2 := Nn.cell 2
      have n3 := Nn.cell 3
      have z1 := Nn.frozen 1
      have z2 := Nn.frozen 2
      have z3 := Nn.frozen 3
      simp only [List.getElem?_cons_zero, List.getElem?_cons_succ] at l0 l1 l2 n1 n2 n3
      have hne : w.heap.size ≠ wr.heap.size := by have := lk.lt; omega
      clear HL o1 HIH HKID HPW HQ
      have LS := fun (W : World) (x : Value) (j : Nat) (h : Own W w.heap.size 93 [.int .i64 e0, .int .i64 e1, .int .i64 e2]) => h.setOther ⟨wr.heap.size, j, none⟩ x (fun e => hne e)
      have LC := fun (W : World) (h : Own W w.heap.size 93 [.int .i64 e0, .int .i64 e1, .int .i64 e2]) => show W.cell? ⟨w.heap.size, 0, none⟩ = some (.int .i64 e0) ∧ W.cell? ⟨w.heap.size, 1, none⟩ = some (.int .i64 e1) ∧ W.cell? ⟨w.heap.size, 2, none⟩ = some (.int .i64 e2) from ⟨h.cell 0, h.cell 1, h.cell 2⟩
      have HS0 := hide (LC _ Ln)
      have HS1 := hide (LC _ (LS _ (.int .i64 e0) 1 Ln))
      have HS2 := hide (LC _ (LS _ (.int .i64 e1) 2 (LS _ (.int .i64 e0) 1 Ln)))
      have HS3 := hide (LC _ (LS _ (.int .i64 e2) 3 (LS _ (.int .i64 e1) 2 (LS _ (.int .i64 e0) 1 Ln))))
      have HNF := hide (show Own (((wn.setCell ⟨wr.heap.size, 1, none⟩ (.int .i64 e0)).setCell ⟨wr.heap.size, 2, none⟩ (.int .i64 e1)).setCell ⟨wr.heap.size, 3, none⟩ (.int .i64 e2)) wr.heap.size 47 [.int .i64 op, .int .i64 e0, .int .i64 e1, .int .i64 e2, .int .i64 num, .slice vva vvn vvc] from ((Nn.set 1 _).set 2 _).set 3 _)
      have HBF := hide (show Below wr.heap.size wr (((wn.setCell ⟨wr.heap.size, 1, none⟩ (.int .i64 e0)).setCell ⟨wr.heap.size, 2, none⟩ (.int .i64 e1)).setCell ⟨wr.heap.size, 3, none⟩ (.int .i64 e2)) from ((Bn.setCell (Nat.le_refl _) _).setCell (Nat.le_refl _) _).setCell (Nat.le_refl _) _)
      clear LS LC Ln Nn
      go_upto_region 9 with fail
      clear hwn
      go_cut [8] from 32 to 40 (fun s8 wx => s8 = .pointer (some ⟨wr.heap.size, 0, none⟩) ∧ Own wx wr.heap.size 47 [.int .i64 op, .int .i64 e0, .int .i64 e1, .int .i64 e2, .int .i64 num, .slice vva vvn vvc] ∧ Below wr.heap.size wr wx)
      case first =>
        go_region_held3 (fun w' => w'.cell? ⟨w.heap.size, 0, none⟩ = some (.int .i64 e0) ∧ w'.cell? ⟨w.heap.size, 1, none⟩ = some (.int .i64 e1) ∧ w'.cell? ⟨w.heap.size, 2, none⟩ = some (.int .i64 e2)) (first | exact unhide HS0 | exact unhide HS1 | exact unhide HS2 | exact unhide HS3) (fail)
        all_goals
          go_wp2_with fail
          go_meet
          case rel => exact ⟨rfl, unhide HNF, by first | exact unhide HBF | exact (unhide HBF).drew⟩
      case rest =>
      obtain ⟨h8, hOw, hBx⟩ := hcut
      subst h8
      clear HS0 HS1 HS2 HS3 HNF HBF l0 l1 l2 n1 n2 n3 z1 z2 z3 m0 m1 m2 m3 m4 m5 Bn
      have HNC := hide (stemCells_any (B := 0) wc (hres.below hBx))
      have x5 := hOw.cell 5
      simp only [List.getElem?_cons_zero, List.getElem?_cons_succ] at x5
      have HOW := hide hOw
      have HBX := hide hBx
      have hltb := hOw.lt
      clear hOw hBx
      go_wp2_with fail
      refine (unhide HNC).mono ?_
      rintro e wd ⟨xv, rfl, hRx, hbd⟩
      obtain ⟨xa, xn, xc, rfl⟩ := hRx.shape
      have Od := (unhide HOW).below hbd hltb
      have hxb : ∀ b, (Value.slice xa xn xc).ownBlock = some b → wc.heap.size ≤ b := fun b hb => hRx.base b hb
      obtain ⟨we, hwe⟩ : ∃ we, wd.setCell ⟨wr.heap.size, 5, none⟩ (.slice xa xn xc) = we := ⟨_, rfl⟩
      have Oe : Own we wr.heap.size 47 [.int .i64 op, .int .i64 e0, .int .i64 e1, .int .i64 e2, .int .i64 num, .slice xa xn xc] := by rw [← hwe]; exact Od.set 5 _
      have Be : Below wr.heap.size wr we := by rw [← hwe]; exact ((unhide HBX).trans (hbd.mono (unhide HBX).size)).setCell (Nat.le_refl _) _
      have Re : Res we wc.heap.size (.slice xa xn xc) val := by rw [← hwe]; exact hRx.setOther _ _ (fun b hb e => by have := hxb b hb; have e : b = wr.heap.size := e; omega)
      obtain ⟨wf, hwf⟩ : ∃ wf, we.alloc (.cells #[.int .i64 op, .int .i64 e0, .int .i64 e1, .int .i64 e2, .int .i64 num, .slice xa xn xc] 47) = wf := ⟨_, rfl⟩
      have Bf : Below wr.heap.size wr wf := by rw [← hwf]; exact Be.alloc Be.size _
      have Xf : Own wf we.heap.size 47 [.int .i64 op, .int .i64 e0, .int .i64 e1, .int .i64 e2, .int .i64 num, .slice xa xn xc] := by rw [← hwf]; exact ⟨_, heap_alloc_new _ _, rfl⟩
      have hbw : base ≤ wr.heap.size := by have := unhide HB; omega
      have hwcs : wr.heap.size ≤ wc.heap.size := by omega
      have Rf : Res wf base (.slice xa xn xc) val := by rw [← hwf]; exact (Re.alloc _).mono (by omega)
      have RWf := (unhide HLL).row.below Bf
      have HO8 := hide RWf.1
      have HN8 := hide (show ∀ j uu, (Lw.nodeV (⟨op, e0, e1, e2, num, val⟩ : Co) (.slice xa xn xc))[j]? = some uu → wf.cell? ((⟨we.heap.size, 0, none⟩ : Addr).add j) = some uu from fun j uu hu => by
        have ha : (⟨we.heap.size, 0, none⟩ : Addr).add j = ⟨we.heap.size, j, none⟩ := Ste.addr_add (b := we.heap.size) j
        rw [ha, Xf.cell j]; exact hu)
      have HP8 := hide (Lw.plain_node (⟨op, e0, e1, e2, num, val⟩ : Co) (.slice xa xn xc) rfl)
      have hb63 : cs'.length + 1 ≤ maxLen := by unfold maxLen; omega
      have hby : (cs'.length + 1) * 64 ≤ 140737488355328 := by omega
      have hbase8 : base ≤ wf.heap.size := by have := Bf.size; omega
      have HPU := hide (fun (wA : World) (v' : Value) ho hg => RWf.push (wA := wA) (v' := v') (x := .slice xa xn xc) (c := (⟨op, e0, e1, e2, num, val⟩ : Co)) ho hg Rf)
      have HND := hide (show (Lp.bls (cs' ++ [((⟨op, e0, e1, e2, num, val⟩ : Co), Value.slice xa xn xc)])).Nodup from by
        rw [Lp.bls_snoc]
        refine List.nodup_append.2 ⟨(unhide HLL).nd, by cases (Value.slice xa xn xc).ownBlock <;> simp, fun a ha b hb hab => ?_⟩
        have h1 := (unhide HLL).row.bls_lt a ha
        have h2 := hxb b (by simpa using hb)
        omega)
      have HLF := hide (show Ste.Lf (.slice va cs.length vc) (.slice va' cs'.length vc') w wf from (unhide HLL).fr.behind (Bf.mono hsw) Bf.size)
      have d0 := Oe.cell 0
      have d1 := Oe.cell 1
      have d2 := Oe.cell 2
      have d3 := Oe.cell 3
      have d4 := Oe.cell 4
      have d5 := Oe.cell 5
      have y5 := Od.frozen 5
      have b5 := Od.cell 5
      simp only [List.getElem?_cons_zero, List.getElem?_cons_succ] at d0 d1 d2 d3 d4 d5 b5
      clear hRx hbd Od Oe Be Re Xf Rf RWf HNC HOW HBX Bf
      go_wp2_with (at_builtin; refine wpList_append_own_at _ rfl (.tmp 45) (.tmp 47) 24 rfl base 47 i0 (.agg #[.int .i64 0, .int .i64 0, .int .i64 0, .int .i64 0, .int .i64 0, .slice none 0 0]) 6 64 Tryz.underlying24 hi hz0 hz1 hz2 rfl (by decide) _ cs'.length _ rfl (unhide HO8) ⟨we.heap.size, 0, none⟩ 1 1 (Lw.nodeV (⟨op, e0, e1, e2, num, val⟩ : Co) (.slice xa xn xc)) rfl rfl (unhide HN8) (unhide HP8) hb63 hby hbase8 ?_)
      intro v9 wA ho hg _ hown9
      have hRA := (unhide HPU) wA v9 ho hg
      have hLA := (unhide HLF).trans (Ste.Lf.grown hg hown9)
      have hEA : (cs' ++ [((⟨op, e0, e1, e2, num, val⟩ : Co), Value.slice xa xn xc)]).map Prod.fst = cs.map Prod.fst ++ Ste.lay cs.length s := by
        rw [List.map_append, unhide HEQ, unhide HFIN, List.append_assoc]
        rfl
      obtain ⟨ya, yc, hv9⟩ := hRA.slice
      rw [show (cs' ++ [((⟨op, e0, e1, e2, num, val⟩ : Co), Value.slice xa xn xc)]).length = cs'.length + 1 by simp] at hv9
      subst hv9
      have FIN := hide (show Ste.Lys base w (.slice va cs.length vc) cs s (.returned (.slice ya (cs'.length + 1) yc)) wA from ⟨_, _, rfl, hEA, hRA, unhide HND, hLA⟩)
      clear ho hg hown9 hRA hLA hEA HPU HND HLF HO8 HN8 HP8
      go_wp2_with fail
      go_ret
      exact unhide FIN

end Go.Proofs.YtbaanpgbfncdnaaGreat
