/-
  spec.l10Join: parts are joined, and the node behind them.
-/
import Derived.Test.YtbaanpgbfncdnaaGreatQ13
import Derived.Test.YtbaanpgbfncdnaaGreatQ17
import Derived.Test.YtbaanpgbfncdnaaGreatQ25
import Derived.Test.YtbaanpgbfncdnaaGreatQ45
import Derived.Deep.LoopGhost
namespace Go.Proofs.YtbaanpgbfncdnaaGreat
open Go.RowKit
set_option linter.unusedVariables false
set_option linter.unusedSimpArgs false

namespace Ste
theorem owns_empty_k {w : World} {base g : Nat} {e : TypeId} (k : Nat) (hg : base ≤ g) (h : w.heap[g]? = some (.cells #[] e (0, 0))) : w.ownsRow base e k (.slice (some ⟨g, 0, none⟩) 0 0) 0 [] :=
  ⟨by simp, .inr ⟨g, 0, #[], rfl, hg, h, Nat.le_refl _, by unfold maxLen; omega, by simp, by simp⟩⟩
theorem addrAdd {b : Nat} (j : Nat) : (⟨b, 0, none⟩ : Addr).add j = ⟨b, j, none⟩ := by unfold Addr.add; split <;> simp_all
theorem new_six (W : World) (t : TypeId) (x0 x1 x2 x3 x4 x5 : Value) : ∀ j u, ([x0, x1, x2, x3, x4, x5] : List Value)[j]? = some u → (W.alloc (.cells #[x0, x1, x2, x3, x4, x5] t)).cell? ((⟨W.heap.size, 0, none⟩ : Addr).add j) = some u := by
  intro j u hu
  have ho : Own (W.alloc (.cells #[x0, x1, x2, x3, x4, x5] t)) W.heap.size t [x0, x1, x2, x3, x4, x5] := ⟨_, heap_alloc_new _ _, rfl⟩
  rw [addrAdd, ho.cell j]
  exact hu
theorem Jo.grow6 {B C : Nat} {w0 W wB : World} {v v6 : Value} {cs : List (Co × Value)} {ds : List Co} {n : Nat} {xs : List Value} (h : Jo B C w0 W v cs ds) (h6 : W.ownsRow B 2 1 v6 n xs) (hg : W.grownBy wB v6.ownBlock) (hB : C ≤ W.heap.size) : Jo B C w0 wB v cs ds := by
  refine ⟨owns_keep h.row fun b hb => hg.block b (owns_lt h.row hb) (fun e => owns_apart h.row h6 (by decide) hb e.symm), fun p hp => Lw.res_keep (h.vals p hp) fun b hb => hg.block b ((h.vals p hp).lt b hb) (fun e => ?_), h.eq, h.bel.grown hg hB (fun k hk => Nat.le_trans h.ord (owns_typed h6 hk).1), h.ord⟩
  obtain ⟨_, c, hc⟩ := owns_typed h6 e.symm
  obtain ⟨c', hc'⟩ := Lw.res_typed (h.vals p hp) hb
  rw [hc] at hc'
  simp only [Option.some.injEq, Obj.cells.injEq] at hc'
  exact absurd hc'.2.1 (by decide)
theorem owns_at {w : World} {B n : Nat} {e : TypeId} {v : Value} {xs : List Value} (h : w.ownsRow B e 1 v n xs) (hn : 0 < n) : ∃ g cap, v = .slice (some ⟨g, 0, none⟩) n cap ∧ B ≤ g ∧ g < w.heap.size ∧ ∀ j, j < n → w.cell? ⟨g, j, none⟩ = xs[j]? := by
  have hh := h
  obtain ⟨h1, ⟨h2, h3⟩ | ⟨g, cap, cur, h3, hg, hb, _⟩⟩ := hh
  · omega
  · subst h3
    exact ⟨g, cap, rfl, hg, (Array.getElem?_eq_some_iff.1 hb).1, fun j hj => Tr.owns_cell h j hj⟩
theorem coreInfo2 : (Tryz.prog.info? 47).map (fun i => (i.zero, i.size, i.bytes)) = some (some (.agg #[.int .i64 0, .int .i64 0, .int .i64 0, .int .i64 0, .int .i64 0, .slice none 0 0]), 6, 64) := by kernel_rfl
end Ste
set_option maxRecDepth 100000 in
set_option maxHeartbeats 4000000 in
theorem specl10Join_any (h : Hd) (va : Option Addr) (vn vc q cap : Nat) (L : List Ste) (w : World) (H : Ste.Ps w q h L) (hr : Res w 0 (.slice va vn vc) h.val) :
    Calls Tryz.prog 69 #[.slice (some ⟨q, 0, none⟩) L.length cap, .agg #[.int .i64 h.op, .int .i64 0, .int .i64 0, .int .i64 0, .int .i64 h.num, .slice va vn vc]] w fun e w' => ∃ a n c, e = .returned (.slice a n c) ∧ Ste.Pt w' (.slice a n c) (Ste.mk h L) ∧ Below w.heap.size w w' := by
  obtain ⟨i0, hi0, hz0, hz1, hz2⟩ := info_parts Ste.coreInfo2
  obtain ⟨j0, hj0, hy0, hy1, hy2⟩ := info_parts Tr.infoI
  have h3 : L.length ≤ 3 := by rw [← H.hF.kid]; exact Co.kids_le _
  have hL9 := Ste.szL_900 h3 H.hz
  obtain ⟨w0, hw0⟩ : ∃ w0, w0 = w.alloc (.cells #[.int .i64 h.op, .int .i64 0, .int .i64 0, .int .i64 0, .int .i64 h.num, .slice va vn vc] 47) := ⟨_, rfl⟩
  have B0 : Below w.heap.size w w0 := by rw [hw0]; exact (Below.refl _ _).alloc (Nat.le_refl _) _
  have O0 : Own w0 w.heap.size 47 [.int .i64 h.op, .int .i64 0, .int .i64 0, .int .i64 0, .int .i64 h.num, .slice va vn vc] := by rw [hw0]; exact ⟨_, heap_alloc_new _ _, rfl⟩
  have hnb : w.heap.size < w0.heap.size := O0.lt
  obtain ⟨w1, hw1⟩ : ∃ w1, w1 = w0.alloc (.cells #[] 47) := ⟨_, rfl⟩
  have B1 : Below w0.heap.size w0 w1 := by rw [hw1]; exact (Below.refl _ _).alloc (Nat.le_refl _) _
  have R1 : w1.ownsRow w0.heap.size 47 6 (.slice (some ⟨w0.heap.size, 0, none⟩) 0 0) 0 [] := Ste.owns_empty_k 6 (Nat.le_refl _) (by rw [hw1]; exact heap_alloc_new _ _)
  have hs1 : w0.heap.size < w1.heap.size := by rw [hw1]; simp
  obtain ⟨w2, hw2⟩ : ∃ w2, w2 = w1.alloc (.cells #[] 2) := ⟨_, rfl⟩
  have B2 : Below w1.heap.size w1 w2 := by rw [hw2]; exact (Below.refl _ _).alloc (Nat.le_refl _) _
  have HE0 := hide (show w2.ownsRow w0.heap.size 2 1 (.slice (some ⟨w1.heap.size, 0, none⟩) 0 0) 0 ((Ste.ends L 0).map (Value.int .i64)) from Ste.owns_empty_k 1 (by omega) (by rw [hw2]; exact heap_alloc_new _ _))
  have HJ0 := hide (show Ste.Jo w0.heap.size w0.heap.size w0 w2 (.slice (some ⟨w0.heap.size, 0, none⟩) 0 0) [] (Ste.layL 0 (L.take 0)) from ⟨Ste.owns_belowk R1 B2, fun p hp => (by cases hp), rfl, B1.trans (B2.mono (by omega)), Nat.le_refl _⟩)
  have HPS := hide (H.below B0)
  have HRS := hide hr
  have HO0 := hide O0
  clear H hr R1 B1 B2 O0
  go_enter Tryz.func69, Tryz.ntmps69
  go_upto_region 1 with fail
  rw [← hw0]
  clear hw0
  go_upto_region 2 with fail
  rw [← hw1]
  clear hw1
  go_upto_region 3 with fail
  rw [← hw2]
  clear hw2 hs1
  go_wp2_with fail
  go_loopg [5, 6, 7] L.length (fun gh s5 s6 s7 wr => ∃ (i m : Nat) (cs : List (Co × Value)), Hid (gh = L.length - i) ∧ s7 = .int .i64 i ∧ i ≤ L.length ∧ m ≤ 2700 ∧ Hid (cs.length = m) ∧ Hid (Ste.Jo w0.heap.size w0.heap.size w0 wr s5 cs (Ste.layL 0 (L.take i))) ∧ Hid (wr.ownsRow w0.heap.size 2 1 s6 i ((Ste.ends L i).map (Value.int .i64))))
  case atStart => exact ⟨0, 0, [], rfl, rfl, by omega, by omega, rfl, unhide HJ0, unhide HE0⟩
  case round =>
  clear HJ0 HE0
  obtain ⟨i, m, cs, hg, rfl, hi, hm, HM, HJ, HE⟩ := hrel
  have hBr : w0.heap.size ≤ wr.heap.size := (unhide HJ).bel.size
  obtain ⟨ua, uc, hu⟩ := Ste.owns_shape (unhide HJ).row
  rw [unhide HM] at hu
  subst hu
  obtain ⟨ea, ec, hv⟩ := Ste.owns_shape (unhide HE)
  subst hv
  by_cases hlt : i < L.length
  · have hltI : (i : Int) < (L.length : Int) := by omega
    have hi0I : (0 : Int) ≤ (i : Int) := by omega
    have HPQ := hide (fun (W : World) (hb : Below w0.heap.size w0 W) => ((unhide HPS).below hb))
    obtain ⟨s, hs⟩ : ∃ s, s = Ste.g L i := ⟨_, rfl⟩
    have hmem := Ste.g_mem hlt
    have oks : Ste.Ok s := by rw [hs]; exact (unhide HPS).hO _ hmem
    have hsz9 : Ste.sz s ≤ 900 := by rw [hs]; exact (unhide HPS).hz _ hmem
    obtain ⟨ka, kn, kc, d0, hp, _⟩ := (unhide HPS).kid i hlt
    obtain ⟨g, gc, hgv, hgl, hnode⟩ := hp.node
    rw [hgv] at d0
    rw [← hs] at d0 hnode
    have hql := (unhide HPS).lt
    have HD := hide (fun (W : World) (hb : Below w0.heap.size w0 W) => (Ste.cellk (i := i) hb hql).trans d0)
    have HN := hide hnode
    have HOK := hide oks
    have HTAK := hide (Ste.szL_take_le L (i + 1))
    have HTS := hide (show Ste.szL (L.take (i + 1)) = Ste.szL (L.take i) + Ste.sz s by rw [hs]; exact Ste.szL_take_succ L i hlt)
    have HBS := hide (show m = Ste.szL (L.take i) by rw [← unhide HM, (unhide HJ).len, Ste.layL_len])
    have HFULL := hide (show Ste.jn L i (Ste.sz s) = Ste.layL 0 (L.take (i + 1)) by rw [hs]; exact Ste.jn_full hlt (unhide HPS).hO)
    have HSUC0 := hide (fun k (hk : k < Ste.sz s) => (show Ste.jn L i (k + 1) = Ste.jn L i k ++ [Ste.sh (Ste.szL (L.take i) : Int) ((Ste.lay 0 s).getD k Co.zero)] by rw [hs]; exact Ste.jn_succ L i k (by rw [← hs]; exact hk)))
    have HJN := hide (fun k (hk : k ≤ Ste.sz s) => (show (Ste.jn L i k).length = Ste.szL (L.take i) + k from Ste.jn_len L i k (by rw [← hs]; exact hk)))
    have HJ1 := hide (show Ste.Jo w0.heap.size w0.heap.size w0 wr (.slice ua m uc) cs (Ste.jn L i 0) by rw [Ste.jn_zero]; exact unhide HJ)
    have HHS := hide hs
    clear hp hgv hnode d0 hmem oks HJ hs hql
    obtain ⟨bs, hbs⟩ : ∃ bs, bs = m := ⟨_, rfl⟩
    have h8 : (m : Int) = (bs : Int) := by rw [hbs]
    rw [← hbs] at HBS
    have hbs9 : bs ≤ 2700 := by omega
    have g8 := hide h8
    go_upto_region 8 with fail
    try rw [unhide g8]
    clear hbs h8 g8
    go_loopg [5, 9] (Ste.sz s) (fun gi s5 s9 wi => ∃ (k m : Nat) (cs : List (Co × Value)), Hid (gi = Ste.sz s - k) ∧ s9 = .int .i64 k ∧ k ≤ Ste.sz s ∧ m ≤ 2700 ∧ Hid (cs.length = m) ∧ Hid (Ste.Jo w0.heap.size w0.heap.size w0 wi s5 cs (Ste.jn L i k)) ∧ Hid (wi.ownsRow w0.heap.size 2 1 (.slice ea i ec) i ((Ste.ends L i).map (Value.int .i64))))
    case atStart => exact ⟨0, m, cs, rfl, rfl, by omega, hm, HM, unhide HJ1, HE⟩
    case round =>
    have HGO := hide hg
    clear HJ1 HE HM hm hg hBr
    clear cs
    obtain ⟨k, m, cs, hg, rfl, hk, hm, HM, HJ, HE⟩ := hrel
    have hBr : w0.heap.size ≤ wr.heap.size := (unhide HJ).bel.size
    obtain ⟨ua, uc, hu⟩ := Ste.owns_shape (unhide HJ).row
    rw [unhide HM] at hu
    subst hu
    have dq := (unhide HD) wr (unhide HJ).bel
    by_cases hlk : k < Ste.sz s
    · have hlkI : (k : Int) < (Ste.sz s : Int) := by omega
      have hk0I : (0 : Int) ≤ (k : Int) := by omega
      obtain ⟨vv, f0', f1', f2', f3', f4', f5', hres⟩ := (unhide HN) k hlk
      have hcg : ∀ j, wr.cell? ⟨g, j, none⟩ = w0.cell? ⟨g, j, none⟩ := fun j => Ste.cellk (unhide HJ).bel hgl
      have f0 := (hcg _).trans f0'
      have f1 := (hcg _).trans f1'
      have f2 := (hcg _).trans f2'
      have f3 := (hcg _).trans f3'
      have f4 := (hcg _).trans f4'
      have f5 := (hcg _).trans f5'
      obtain ⟨va5, vn5, vc5, hvv⟩ := hres.shape
      subst hvv
      have hmem2 := Ste.lay_mem s k hlk
      have hop := Ste.kids_lay (unhide HOK) 0 _ hmem2
      have hsm := Ste.lay_small s 0 _ hmem2
      have HSUC := hide ((unhide HSUC0) k hlk)
      rw [← unhide HBS] at HSUC
      have HRES := hide (hres.below (unhide HJ).bel)
      have HMS := hide (show m + 1 ≤ 2700 by
        have e1 := (unhide HJ).len
        rw [unhide HM, (unhide HJN) k hk] at e1
        have e2 := unhide HTS
        have e3 := unhide HTAK
        omega)
      clear f0' f1' f2' f3' f4' f5' hcg hres hmem2 hlk
      generalize (Ste.lay 0 s).getD k Co.zero = n at *
      have HKID := hide (fun wq => l6Kids_any n.op wq hop.1 hop.2)
      have ha0 : 0 ≤ n.a := hsm.1.1
      have ha1 : n.a ≤ 900 := by have := hsm.1.2; omega
      have hb0 : 0 ≤ n.b := hsm.2.1.1
      have hb1 : n.b ≤ 900 := by have := hsm.2.1.2; omega
      have hc0 : 0 ≤ n.c := hsm.2.2.1
      have hc1 : n.c ≤ 900 := by have := hsm.2.2.2; omega
      have hbI : (bs : Int) ≤ 2700 := by omega
      have hbI0 : (0 : Int) ≤ (bs : Int) := by omega
      have h63 : m + 1 ≤ maxLen := by unfold maxLen; omega
      have hby : (m + 1) * 64 ≤ 140737488355328 := by omega
      obtain ⟨w3, hw3⟩ : ∃ w3, w3 = wr.alloc (.cells #[.int .i64 n.op, .int .i64 n.a, .int .i64 n.b, .int .i64 n.c, .int .i64 n.num, .slice va5 vn5 vc5] 47) := ⟨_, rfl⟩
      have B3 : Below wr.heap.size wr w3 := by rw [hw3]; exact (Below.refl _ _).alloc (Nat.le_refl _) _
      have O3 : Own w3 wr.heap.size 47 [.int .i64 n.op, .int .i64 n.a, .int .i64 n.b, .int .i64 n.c, .int .i64 n.num, .slice va5 vn5 vc5] := by rw [hw3]; exact ⟨_, heap_alloc_new _ _, rfl⟩
      have hKle := Co.kids_le n.op
      have hKc : Co.kids n.op = 0 ∨ Co.kids n.op = 1 ∨ Co.kids n.op = 2 ∨ Co.kids n.op = 3 := by omega
      clear hKle hsm hop
      rcases hKc with hK | hK | hK | hK
      · -- 0 links
        have hsh : Ste.sh (bs : Int) n = ⟨n.op, n.a, n.b, n.c, n.num, n.val⟩ := by unfold Ste.sh; rw [hK]; rfl
        rw [hsh] at HSUC
        rw [hK] at HKID
        obtain ⟨W, hW⟩ : ∃ W, W = w3 := ⟨_, rfl⟩
        have OW : Own W wr.heap.size 47 [.int .i64 n.op, .int .i64 n.a, .int .i64 n.b, .int .i64 n.c, .int .i64 n.num, (.slice va5 vn5 vc5)] := by rw [hW]; exact O3
        have BW : Below wr.heap.size wr W := by rw [hW]; exact B3
        have hWs : wr.heap.size < W.heap.size := OW.lt
        clear hsh hK
        have JW := (unhide HJ).below BW hBr
        have EW := Ste.owns_belowk (unhide HE) BW
        have HROW := hide (fun o => (JW.below ((Below.refl _ _).alloc (Nat.le_refl _) o) (by omega)).row)
        rw [unhide HM] at HROW
        have HJW := hide (fun o => JW.below ((Below.refl W.heap.size W).alloc (Nat.le_refl _) o) (by omega))
        have HEW := hide (fun o => Ste.owns_belowk EW ((Below.refl W.heap.size W).alloc (Nat.le_refl _) o))
        have HRW := hide (fun o => ((unhide HRES).below BW).below ((Below.refl W.heap.size W).alloc (Nat.le_refl _) o))
        have HNEW := hide (Ste.new_six W 47 (.int .i64 n.op) (.int .i64 n.a) (.int .i64 n.b) (.int .i64 n.c) (.int .i64 n.num) ((.slice va5 vn5 vc5)))
        have HPL := hide (Lw.plain_node (⟨n.op, n.a, n.b, n.c, n.num, n.val⟩ : Co) (.slice va5 vn5 vc5) rfl)
        obtain ⟨c0, c1, c2, c3, c4, c5⟩ := Ste.six_co O3
        have z1 := O3.frozen 1
        have z2 := O3.frozen 2
        have z3 := O3.frozen 3
        have OWH := hide OW
        clear O3 B3 JW EW BW OW HJ HE HRES
        go_upto_region 11 with fail
        rw [← hw3]
        clear hw3 f0 f1 f2 f3 f4 f5
        go_wp2_with fail
        refine ((unhide HKID) _).mono ?_
        rintro e wk ⟨rfl, hwk⟩
        rw [hwk]
        clear hwk
        go_wp2_with fail
        refine ((unhide HKID) _).mono ?_
        rintro e wk ⟨rfl, hwk⟩
        rw [hwk]
        clear hwk
        go_wp2_with fail
        refine ((unhide HKID) _).mono ?_
        rintro e wk ⟨rfl, hwk⟩
        rw [hwk]
        clear hwk
        go_upto_region 17 with fail
        rw [← hW]
        clear hW c0 c1 c2 c3 c4 c5 z1 z2 z3 HKID
        obtain ⟨c0, c1, c2, c3, c4, c5⟩ := Ste.six_co (unhide OWH)
        go_wp2_with (at_builtin; refine wpList_append_own _ rfl (.tmp 64) (.tmp 66) 24 rfl w0.heap.size 47 i0 (.agg #[.int .i64 0, .int .i64 0, .int .i64 0, .int .i64 0, .int .i64 0, .slice none 0 0]) 6 64 Tryz.underlying24 hi0 hz0 hz1 hz2 rfl (by decide) _ m _ rfl ((unhide HROW) _) ⟨W.heap.size, 0, none⟩ 1 1 (Lw.nodeV (⟨n.op, n.a, n.b, n.c, n.num, n.val⟩ : Co) (.slice va5 vn5 vc5)) rfl rfl (unhide HNEW) (unhide HPL) h63 hby (by simp; omega) ?_)
        intro v' wA ho hgr _
        have JA := ((unhide HJW) _).push (c := (⟨n.op, n.a, n.b, n.c, n.num, n.val⟩ : Co)) (x := .slice va5 vn5 vc5) (by simp; omega) (by rw [unhide HM]; exact ho) hgr ((unhide HRW) _)
        have EA := hide (((unhide HJW) _).other ((unhide HEW) _) (by decide) hgr)
        rw [← unhide HSUC] at JA
        have HJA := hide JA
        obtain ⟨xa, xc, rfl⟩ := Ste.owns_shape ho
        clear ho hgr JA HROW HJW HEW HRW HNEW HPL OWH c0 c1 c2 c3 c4 c5
        go_wp2_with fail
        go_roundg (Ste.sz s - (k + 1))
        case rel => exact ⟨k + 1, m + 1, _, rfl, by go_num, by omega, by (have := unhide HMS; omega), by (show _ = _; rw [List.length_append, List.length_singleton, unhide HM]), unhide HJA, unhide EA⟩
        case measure => have := hg.out; omega
      · -- 1 links
        have hsh : Ste.sh (bs : Int) n = ⟨n.op, (n.a + (bs : Int)), n.b, n.c, n.num, n.val⟩ := by unfold Ste.sh; rw [hK]; rfl
        rw [hsh] at HSUC
        rw [hK] at HKID
        obtain ⟨W, hW⟩ : ∃ W, W = (w3.setCell ⟨wr.heap.size, 1, none⟩ (.int .i64 (n.a + (bs : Int)))) := ⟨_, rfl⟩
        have OW : Own W wr.heap.size 47 [.int .i64 n.op, .int .i64 (n.a + (bs : Int)), .int .i64 n.b, .int .i64 n.c, .int .i64 n.num, (.slice va5 vn5 vc5)] := by rw [hW]; exact (O3.set 1 (.int .i64 (n.a + (bs : Int))))
        have BW : Below wr.heap.size wr W := by rw [hW]; exact (B3.setCell (Nat.le_refl _) (.int .i64 (n.a + (bs : Int))))
        have hWs : wr.heap.size < W.heap.size := OW.lt
        clear hsh hK
        have JW := (unhide HJ).below BW hBr
        have EW := Ste.owns_belowk (unhide HE) BW
        have HROW := hide (fun o => (JW.below ((Below.refl _ _).alloc (Nat.le_refl _) o) (by omega)).row)
        rw [unhide HM] at HROW
        have HJW := hide (fun o => JW.below ((Below.refl W.heap.size W).alloc (Nat.le_refl _) o) (by omega))
        have HEW := hide (fun o => Ste.owns_belowk EW ((Below.refl W.heap.size W).alloc (Nat.le_refl _) o))
        have HRW := hide (fun o => ((unhide HRES).below BW).below ((Below.refl W.heap.size W).alloc (Nat.le_refl _) o))
        have HNEW := hide (Ste.new_six W 47 (.int .i64 n.op) (.int .i64 (n.a + (bs : Int))) (.int .i64 n.b) (.int .i64 n.c) (.int .i64 n.num) ((.slice va5 vn5 vc5)))
        have HPL := hide (Lw.plain_node (⟨n.op, (n.a + (bs : Int)), n.b, n.c, n.num, n.val⟩ : Co) (.slice va5 vn5 vc5) rfl)
        obtain ⟨c0, c1, c2, c3, c4, c5⟩ := Ste.six_co O3
        have z1 := O3.frozen 1
        have z2 := O3.frozen 2
        have z3 := O3.frozen 3
        have OWH := hide OW
        clear O3 B3 JW EW BW OW HJ HE HRES
        go_upto_region 11 with fail
        rw [← hw3]
        clear hw3 f0 f1 f2 f3 f4 f5
        go_wp2_with fail
        refine ((unhide HKID) _).mono ?_
        rintro e wk ⟨rfl, hwk⟩
        rw [hwk]
        clear hwk
        go_wp2_with fail
        refine ((unhide HKID) _).mono ?_
        rintro e wk ⟨rfl, hwk⟩
        rw [hwk]
        clear hwk
        go_wp2_with fail
        refine ((unhide HKID) _).mono ?_
        rintro e wk ⟨rfl, hwk⟩
        rw [hwk]
        clear hwk
        go_upto_region 17 with fail
        rw [← hW]
        clear hW c0 c1 c2 c3 c4 c5 z1 z2 z3 HKID
        obtain ⟨c0, c1, c2, c3, c4, c5⟩ := Ste.six_co (unhide OWH)
        go_wp2_with (at_builtin; refine wpList_append_own _ rfl (.tmp 64) (.tmp 66) 24 rfl w0.heap.size 47 i0 (.agg #[.int .i64 0, .int .i64 0, .int .i64 0, .int .i64 0, .int .i64 0, .slice none 0 0]) 6 64 Tryz.underlying24 hi0 hz0 hz1 hz2 rfl (by decide) _ m _ rfl ((unhide HROW) _) ⟨W.heap.size, 0, none⟩ 1 1 (Lw.nodeV (⟨n.op, (n.a + (bs : Int)), n.b, n.c, n.num, n.val⟩ : Co) (.slice va5 vn5 vc5)) rfl rfl (unhide HNEW) (unhide HPL) h63 hby (by simp; omega) ?_)
        intro v' wA ho hgr _
        have JA := ((unhide HJW) _).push (c := (⟨n.op, (n.a + (bs : Int)), n.b, n.c, n.num, n.val⟩ : Co)) (x := .slice va5 vn5 vc5) (by simp; omega) (by rw [unhide HM]; exact ho) hgr ((unhide HRW) _)
        have EA := hide (((unhide HJW) _).other ((unhide HEW) _) (by decide) hgr)
        rw [← unhide HSUC] at JA
        have HJA := hide JA
        obtain ⟨xa, xc, rfl⟩ := Ste.owns_shape ho
        clear ho hgr JA HROW HJW HEW HRW HNEW HPL OWH c0 c1 c2 c3 c4 c5
        go_wp2_with fail
        go_roundg (Ste.sz s - (k + 1))
        case rel => exact ⟨k + 1, m + 1, _, rfl, by go_num, by omega, by (have := unhide HMS; omega), by (show _ = _; rw [List.length_append, List.length_singleton, unhide HM]), unhide HJA, unhide EA⟩
        case measure => have := hg.out; omega
      · -- 2 links
        have hsh : Ste.sh (bs : Int) n = ⟨n.op, (n.a + (bs : Int)), (n.b + (bs : Int)), n.c, n.num, n.val⟩ := by unfold Ste.sh; rw [hK]; rfl
        rw [hsh] at HSUC
        rw [hK] at HKID
        obtain ⟨W, hW⟩ : ∃ W, W = ((w3.setCell ⟨wr.heap.size, 1, none⟩ (.int .i64 (n.a + (bs : Int)))).setCell ⟨wr.heap.size, 2, none⟩ (.int .i64 (n.b + (bs : Int)))) := ⟨_, rfl⟩
        have OW : Own W wr.heap.size 47 [.int .i64 n.op, .int .i64 (n.a + (bs : Int)), .int .i64 (n.b + (bs : Int)), .int .i64 n.c, .int .i64 n.num, (.slice va5 vn5 vc5)] := by rw [hW]; exact ((O3.set 1 (.int .i64 (n.a + (bs : Int)))).set 2 (.int .i64 (n.b + (bs : Int))))
        have BW : Below wr.heap.size wr W := by rw [hW]; exact ((B3.setCell (Nat.le_refl _) (.int .i64 (n.a + (bs : Int)))).setCell (Nat.le_refl _) (.int .i64 (n.b + (bs : Int))))
        have hWs : wr.heap.size < W.heap.size := OW.lt
        clear hsh hK
        have JW := (unhide HJ).below BW hBr
        have EW := Ste.owns_belowk (unhide HE) BW
        have HROW := hide (fun o => (JW.below ((Below.refl _ _).alloc (Nat.le_refl _) o) (by omega)).row)
        rw [unhide HM] at HROW
        have HJW := hide (fun o => JW.below ((Below.refl W.heap.size W).alloc (Nat.le_refl _) o) (by omega))
        have HEW := hide (fun o => Ste.owns_belowk EW ((Below.refl W.heap.size W).alloc (Nat.le_refl _) o))
        have HRW := hide (fun o => ((unhide HRES).below BW).below ((Below.refl W.heap.size W).alloc (Nat.le_refl _) o))
        have HNEW := hide (Ste.new_six W 47 (.int .i64 n.op) (.int .i64 (n.a + (bs : Int))) (.int .i64 (n.b + (bs : Int))) (.int .i64 n.c) (.int .i64 n.num) ((.slice va5 vn5 vc5)))
        have HPL := hide (Lw.plain_node (⟨n.op, (n.a + (bs : Int)), (n.b + (bs : Int)), n.c, n.num, n.val⟩ : Co) (.slice va5 vn5 vc5) rfl)
        obtain ⟨c0, c1, c2, c3, c4, c5⟩ := Ste.six_co O3
        have z1 := O3.frozen 1
        have z2 := O3.frozen 2
        have z3 := O3.frozen 3
        have OWH := hide OW
        clear O3 B3 JW EW BW OW HJ HE HRES
        go_upto_region 11 with fail
        rw [← hw3]
        clear hw3 f0 f1 f2 f3 f4 f5
        go_wp2_with fail
        refine ((unhide HKID) _).mono ?_
        rintro e wk ⟨rfl, hwk⟩
        rw [hwk]
        clear hwk
        go_wp2_with fail
        refine ((unhide HKID) _).mono ?_
        rintro e wk ⟨rfl, hwk⟩
        rw [hwk]
        clear hwk
        go_wp2_with fail
        refine ((unhide HKID) _).mono ?_
        rintro e wk ⟨rfl, hwk⟩
        rw [hwk]
        clear hwk
        go_upto_region 17 with fail
        rw [← hW]
        clear hW c0 c1 c2 c3 c4 c5 z1 z2 z3 HKID
        obtain ⟨c0, c1, c2, c3, c4, c5⟩ := Ste.six_co (unhide OWH)
        go_wp2_with (at_builtin; refine wpList_append_own _ rfl (.tmp 64) (.tmp 66) 24 rfl w0.heap.size 47 i0 (.agg #[.int .i64 0, .int .i64 0, .int .i64 0, .int .i64 0, .int .i64 0, .slice none 0 0]) 6 64 Tryz.underlying24 hi0 hz0 hz1 hz2 rfl (by decide) _ m _ rfl ((unhide HROW) _) ⟨W.heap.size, 0, none⟩ 1 1 (Lw.nodeV (⟨n.op, (n.a + (bs : Int)), (n.b + (bs : Int)), n.c, n.num, n.val⟩ : Co) (.slice va5 vn5 vc5)) rfl rfl (unhide HNEW) (unhide HPL) h63 hby (by simp; omega) ?_)
        intro v' wA ho hgr _
        have JA := ((unhide HJW) _).push (c := (⟨n.op, (n.a + (bs : Int)), (n.b + (bs : Int)), n.c, n.num, n.val⟩ : Co)) (x := .slice va5 vn5 vc5) (by simp; omega) (by rw [unhide HM]; exact ho) hgr ((unhide HRW) _)
        have EA := hide (((unhide HJW) _).other ((unhide HEW) _) (by decide) hgr)
        rw [← unhide HSUC] at JA
        have HJA := hide JA
        obtain ⟨xa, xc, rfl⟩ := Ste.owns_shape ho
        clear ho hgr JA HROW HJW HEW HRW HNEW HPL OWH c0 c1 c2 c3 c4 c5
        go_wp2_with fail
        go_roundg (Ste.sz s - (k + 1))
        case rel => exact ⟨k + 1, m + 1, _, rfl, by go_num, by omega, by (have := unhide HMS; omega), by (show _ = _; rw [List.length_append, List.length_singleton, unhide HM]), unhide HJA, unhide EA⟩
        case measure => have := hg.out; omega
      · -- 3 links
        have hsh : Ste.sh (bs : Int) n = ⟨n.op, (n.a + (bs : Int)), (n.b + (bs : Int)), (n.c + (bs : Int)), n.num, n.val⟩ := by unfold Ste.sh; rw [hK]; rfl
        rw [hsh] at HSUC
        rw [hK] at HKID
        obtain ⟨W, hW⟩ : ∃ W, W = (((w3.setCell ⟨wr.heap.size, 1, none⟩ (.int .i64 (n.a + (bs : Int)))).setCell ⟨wr.heap.size, 2, none⟩ (.int .i64 (n.b + (bs : Int)))).setCell ⟨wr.heap.size, 3, none⟩ (.int .i64 (n.c + (bs : Int)))) := ⟨_, rfl⟩
        have OW : Own W wr.heap.size 47 [.int .i64 n.op, .int .i64 (n.a + (bs : Int)), .int .i64 (n.b + (bs : Int)), .int .i64 (n.c + (bs : Int)), .int .i64 n.num, (.slice va5 vn5 vc5)] := by rw [hW]; exact (((O3.set 1 (.int .i64 (n.a + (bs : Int)))).set 2 (.int .i64 (n.b + (bs : Int)))).set 3 (.int .i64 (n.c + (bs : Int))))
        have BW : Below wr.heap.size wr W := by rw [hW]; exact (((B3.setCell (Nat.le_refl _) (.int .i64 (n.a + (bs : Int)))).setCell (Nat.le_refl _) (.int .i64 (n.b + (bs : Int)))).setCell (Nat.le_refl _) (.int .i64 (n.c + (bs : Int))))
        have hWs : wr.heap.size < W.heap.size := OW.lt
        clear hsh hK
        have JW := (unhide HJ).below BW hBr
        have EW := Ste.owns_belowk (unhide HE) BW
        have HROW := hide (fun o => (JW.below ((Below.refl _ _).alloc (Nat.le_refl _) o) (by omega)).row)
        rw [unhide HM] at HROW
        have HJW := hide (fun o => JW.below ((Below.refl W.heap.size W).alloc (Nat.le_refl _) o) (by omega))
        have HEW := hide (fun o => Ste.owns_belowk EW ((Below.refl W.heap.size W).alloc (Nat.le_refl _) o))
        have HRW := hide (fun o => ((unhide HRES).below BW).below ((Below.refl W.heap.size W).alloc (Nat.le_refl _) o))
        have HNEW := hide (Ste.new_six W 47 (.int .i64 n.op) (.int .i64 (n.a + (bs : Int))) (.int .i64 (n.b + (bs : Int))) (.int .i64 (n.c + (bs : Int))) (.int .i64 n.num) ((.slice va5 vn5 vc5)))
        have HPL := hide (Lw.plain_node (⟨n.op, (n.a + (bs : Int)), (n.b + (bs : Int)), (n.c + (bs : Int)), n.num, n.val⟩ : Co) (.slice va5 vn5 vc5) rfl)
        obtain ⟨c0, c1, c2, c3, c4, c5⟩ := Ste.six_co O3
        have z1 := O3.frozen 1
        have z2 := O3.frozen 2
        have z3 := O3.frozen 3
        have OWH := hide OW
        clear O3 B3 JW EW BW OW HJ HE HRES
        go_upto_region 11 with fail
        rw [← hw3]
        clear hw3 f0 f1 f2 f3 f4 f5
        go_wp2_with fail
        refine ((unhide HKID) _).mono ?_
        rintro e wk ⟨rfl, hwk⟩
        rw [hwk]
        clear hwk
        go_wp2_with fail
        refine ((unhide HKID) _).mono ?_
        rintro e wk ⟨rfl, hwk⟩
        rw [hwk]
        clear hwk
        go_wp2_with fail
        refine ((unhide HKID) _).mono ?_
        rintro e wk ⟨rfl, hwk⟩
        rw [hwk]
        clear hwk
        go_upto_region 17 with fail
        rw [← hW]
        clear hW c0 c1 c2 c3 c4 c5 z1 z2 z3 HKID
        obtain ⟨c0, c1, c2, c3, c4, c5⟩ := Ste.six_co (unhide OWH)
        go_wp2_with (at_builtin; refine wpList_append_own _ rfl (.tmp 64) (.tmp 66) 24 rfl w0.heap.size 47 i0 (.agg #[.int .i64 0, .int .i64 0, .int .i64 0, .int .i64 0, .int .i64 0, .slice none 0 0]) 6 64 Tryz.underlying24 hi0 hz0 hz1 hz2 rfl (by decide) _ m _ rfl ((unhide HROW) _) ⟨W.heap.size, 0, none⟩ 1 1 (Lw.nodeV (⟨n.op, (n.a + (bs : Int)), (n.b + (bs : Int)), (n.c + (bs : Int)), n.num, n.val⟩ : Co) (.slice va5 vn5 vc5)) rfl rfl (unhide HNEW) (unhide HPL) h63 hby (by simp; omega) ?_)
        intro v' wA ho hgr _
        have JA := ((unhide HJW) _).push (c := (⟨n.op, (n.a + (bs : Int)), (n.b + (bs : Int)), (n.c + (bs : Int)), n.num, n.val⟩ : Co)) (x := .slice va5 vn5 vc5) (by simp; omega) (by rw [unhide HM]; exact ho) hgr ((unhide HRW) _)
        have EA := hide (((unhide HJW) _).other ((unhide HEW) _) (by decide) hgr)
        rw [← unhide HSUC] at JA
        have HJA := hide JA
        obtain ⟨xa, xc, rfl⟩ := Ste.owns_shape ho
        clear ho hgr JA HROW HJW HEW HRW HNEW HPL OWH c0 c1 c2 c3 c4 c5
        go_wp2_with fail
        go_roundg (Ste.sz s - (k + 1))
        case rel => exact ⟨k + 1, m + 1, _, rfl, by go_num, by omega, by (have := unhide HMS; omega), by (show _ = _; rw [List.length_append, List.length_singleton, unhide HM]), unhide HJA, unhide EA⟩
        case measure => have := hg.out; omega
    · have hlkI : ¬ (k : Int) < (Ste.sz s : Int) := by omega
      have hke : k = Ste.sz s := by omega
      have HJF := hide (show Ste.Jo w0.heap.size w0.heap.size w0 wr (.slice ua m uc) cs (Ste.layL 0 (L.take (i + 1))) by rw [← unhide HFULL, ← hke]; exact unhide HJ)
      have HEN := hide (show (m : Int) - 1 = Ste.endAt 0 L i by
        rw [Ste.endAt_is L i hlt, ← unhide HM, (unhide HJF).len, Ste.layL_len])
      have HEND := hide (Ste.ends_succ L i)
      have hone := hide (Tr.one_word wr (Ste.endAt 0 L i))
      have honep := hide (Tr.one_plain (Ste.endAt 0 L i))
      have hb63 : i + 1 ≤ maxLen := by unfold maxLen; omega
      have hby : (i + 1) * 8 ≤ 140737488355328 := by omega
      have HROW := hide (fun o => Ste.owns_belowk (unhide HE) ((Below.refl wr.heap.size wr).alloc (Nat.le_refl _) o))
      have HJO := hide (fun o => (unhide HJF).below ((Below.refl wr.heap.size wr).alloc (Nat.le_refl _) o) hBr)
      have hen := unhide HEN
      clear hke HJ HE
      generalize Ste.endAt 0 L i = en at *
      go_upto_region 18 with fail
      go_wp2_with (at_builtin; refine wpList_append_own _ rfl (.tmp 68) (.tmp 72) 34 rfl w0.heap.size 2 j0 _ 1 8 Tryz.underlying34 hj0 hy0 hy1 hy2 rfl (by decide) _ i _ rfl ((unhide HROW) _) ⟨wr.heap.size, 0, none⟩ 1 1 [.int .i64 en] rfl rfl (unhide hone) (unhide honep) hb63 hby (by simp; omega) ?_)
      intro v' wB ho hgr _
      have JB := hide (((unhide HJO) _).grow6 ((unhide HROW) _) hgr (by simp; omega))
      have EB := hide (show wB.ownsRow w0.heap.size 2 1 v' (i + 1) ((Ste.ends L (i + 1)).map (Value.int .i64)) by rw [unhide HEND, List.map_append]; exact ho)
      obtain ⟨xa, xc, rfl⟩ := Ste.owns_shape ho
      clear ho hgr HROW HJO hone honep
      go_wp2_with fail
      go_roundg (L.length - (i + 1))
      case rel => exact ⟨i + 1, m, cs, rfl, by go_num, by omega, hm, HM, unhide JB, unhide EB⟩
      case measure => have := HGO.out.out; omega
  · have hltI : ¬ (i : Int) < (L.length : Int) := by omega
    have hie : i = L.length := by omega
    have HLL := hide hie.symm
    have OB := (unhide HO0).below (unhide HJ).bel hnb
    have h63 : m + 1 ≤ maxLen := by unfold maxLen; omega
    have hby : (m + 1) * 64 ≤ 140737488355328 := by omega
    have hic : i = 0 ∨ i = 1 ∨ i = 2 ∨ i = 3 := by omega
    clear hie hlt
    rcases hic with hil | hil | hil | hil
    · -- 0 parts
      subst hil
      have he0 : Ste.endAt 0 L 0 = 0 := Ste.endAt_no L 0 (by have := unhide HLL; omega)
      have he1 : Ste.endAt 0 L 1 = 0 := Ste.endAt_no L 1 (by have := unhide HLL; omega)
      have he2 : Ste.endAt 0 L 2 = 0 := Ste.endAt_no L 2 (by have := unhide HLL; omega)
      obtain ⟨W, hW⟩ : ∃ W, W = wr := ⟨_, rfl⟩
      have OW : Own W w.heap.size 47 [.int .i64 h.op, .int .i64 0, .int .i64 0, .int .i64 0, .int .i64 h.num, (.slice va vn vc)] := by rw [hW]; exact OB
      have JW : Ste.Jo w0.heap.size w.heap.size w W (.slice ua m uc) cs (Ste.layL 0 (L.take 0)) := by rw [hW]; exact (((unhide HJ).old B0 (by omega)))
      have hWs : w.heap.size < W.heap.size := OW.lt
      have hWs2 : w0.heap.size ≤ W.heap.size := by rw [hW]; simpa using hBr
      have RW := (unhide HRS).below JW.bel
      have HROW := hide (fun o => (JW.below ((Below.refl _ _).alloc (Nat.le_refl _) o) (by omega)).row)
      rw [unhide HM] at HROW
      have HJW := hide (fun o => JW.below ((Below.refl W.heap.size W).alloc (Nat.le_refl _) o) (by omega))
      have HRW := hide (fun o => RW.below ((Below.refl W.heap.size W).alloc (Nat.le_refl _) o))
      have HNEW := hide (Ste.new_six W 47 (.int .i64 h.op) (.int .i64 0) (.int .i64 0) (.int .i64 0) (.int .i64 h.num) ((.slice va vn vc)))
      have HPL := hide (Lw.plain_node (⟨h.op, 0, 0, 0, h.num, h.val⟩ : Co) (.slice va vn vc) rfl)
      have HWH := hide (Ste.jn_whole h L h3)
      rw [he0, he1, he2] at HWH
      obtain ⟨c0, c1, c2, c3, c4, c5⟩ := Ste.six_co OB
      have z1 := OB.frozen 1
      have z2 := OB.frozen 2
      have z3 := OB.frozen 3
      have OWH := hide OW
      clear JW OW HJ HE RW OB he0 he1 he2 
      go_upto_region 25 with fail
      rw [← hW]
      clear hW c0 c1 c2 c3 c4 c5 z1 z2 z3 
      obtain ⟨c0, c1, c2, c3, c4, c5⟩ := Ste.six_co (unhide OWH)
      go_wp2_with (at_builtin; refine wpList_append_own _ rfl (.tmp 95) (.tmp 97) 24 rfl w0.heap.size 47 i0 (.agg #[.int .i64 0, .int .i64 0, .int .i64 0, .int .i64 0, .int .i64 0, .slice none 0 0]) 6 64 Tryz.underlying24 hi0 hz0 hz1 hz2 rfl (by decide) _ m _ rfl ((unhide HROW) _) ⟨W.heap.size, 0, none⟩ 1 1 (Lw.nodeV (⟨h.op, 0, 0, 0, h.num, h.val⟩ : Co) (.slice va vn vc)) rfl rfl (unhide HNEW) (unhide HPL) h63 hby (by simp; omega) ?_)
      intro v' wA ho hgr _
      have JA := ((unhide HJW) _).push (c := (⟨h.op, 0, 0, 0, h.num, h.val⟩ : Co)) (x := .slice va vn vc) (by simp; omega) (by rw [unhide HM]; exact ho) hgr ((unhide HRW) _)
      have JB : Ste.Jo w0.heap.size w.heap.size w wA v' (cs ++ [((⟨h.op, 0, 0, 0, h.num, h.val⟩ : Co), .slice va vn vc)]) (Ste.lay 0 (Ste.mk h L)) := by
        rw [← unhide HWH, unhide HLL]
        exact JA
      have HJA := hide (And.intro JB.part JB.bel)
      clear JB
      obtain ⟨xa, xc, rfl⟩ := Ste.owns_shape ho
      clear ho hgr JA HROW HJW HRW HNEW HPL OWH c0 c1 c2 c3 c4 c5
      go_wp2_with fail
      go_ret
      exact ⟨_, _, _, rfl, (unhide HJA).1, (unhide HJA).2⟩
    · -- 1 parts
      subst hil
      obtain ⟨ge, gcap, hev, hge, hgl, hec⟩ := Ste.owns_at (unhide HE) (by omega)
      cases hev
      obtain ⟨e0, he0⟩ : ∃ e0, Ste.endAt 0 L 0 = e0 := ⟨_, rfl⟩
      have he1 : Ste.endAt 0 L 1 = 0 := Ste.endAt_no L 1 (by have := unhide HLL; omega)
      have he2 : Ste.endAt 0 L 2 = 0 := Ste.endAt_no L 2 (by have := unhide HLL; omega)
      have d0 : wr.cell? ⟨ge, 0, none⟩ = some (.int .i64 e0) := by rw [hec 0 (by omega), ← he0]; rfl
      obtain ⟨W, hW⟩ : ∃ W, W = (wr.setCell ⟨w.heap.size, 1, none⟩ (.int .i64 e0)) := ⟨_, rfl⟩
      have OW : Own W w.heap.size 47 [.int .i64 h.op, .int .i64 e0, .int .i64 0, .int .i64 0, .int .i64 h.num, (.slice va vn vc)] := by rw [hW]; exact (OB.set 1 (.int .i64 e0))
      have JW : Ste.Jo w0.heap.size w.heap.size w W (.slice ua m uc) cs (Ste.layL 0 (L.take 1)) := by rw [hW]; exact ((((unhide HJ).old B0 (by omega))).far (j := 1) (x := .int .i64 e0) (Nat.le_refl _) hnb OB)
      have hWs : w.heap.size < W.heap.size := OW.lt
      have hWs2 : w0.heap.size ≤ W.heap.size := by rw [hW]; simpa using hBr
      have RW := (unhide HRS).below JW.bel
      have HROW := hide (fun o => (JW.below ((Below.refl _ _).alloc (Nat.le_refl _) o) (by omega)).row)
      rw [unhide HM] at HROW
      have HJW := hide (fun o => JW.below ((Below.refl W.heap.size W).alloc (Nat.le_refl _) o) (by omega))
      have HRW := hide (fun o => RW.below ((Below.refl W.heap.size W).alloc (Nat.le_refl _) o))
      have HNEW := hide (Ste.new_six W 47 (.int .i64 h.op) (.int .i64 e0) (.int .i64 0) (.int .i64 0) (.int .i64 h.num) ((.slice va vn vc)))
      have HPL := hide (Lw.plain_node (⟨h.op, e0, 0, 0, h.num, h.val⟩ : Co) (.slice va vn vc) rfl)
      have HWH := hide (Ste.jn_whole h L h3)
      rw [he0, he1, he2] at HWH
      obtain ⟨c0, c1, c2, c3, c4, c5⟩ := Ste.six_co OB
      have z1 := OB.frozen 1
      have z2 := OB.frozen 2
      have z3 := OB.frozen 3
      have OWH := hide OW
      clear JW OW HJ HE RW OB he0 he1 he2 hec hge hgl
      go_upto_region 25 with fail
      rw [← hW]
      clear hW c0 c1 c2 c3 c4 c5 z1 z2 z3 d0
      obtain ⟨c0, c1, c2, c3, c4, c5⟩ := Ste.six_co (unhide OWH)
      go_wp2_with (at_builtin; refine wpList_append_own _ rfl (.tmp 95) (.tmp 97) 24 rfl w0.heap.size 47 i0 (.agg #[.int .i64 0, .int .i64 0, .int .i64 0, .int .i64 0, .int .i64 0, .slice none 0 0]) 6 64 Tryz.underlying24 hi0 hz0 hz1 hz2 rfl (by decide) _ m _ rfl ((unhide HROW) _) ⟨W.heap.size, 0, none⟩ 1 1 (Lw.nodeV (⟨h.op, e0, 0, 0, h.num, h.val⟩ : Co) (.slice va vn vc)) rfl rfl (unhide HNEW) (unhide HPL) h63 hby (by simp; omega) ?_)
      intro v' wA ho hgr _
      have JA := ((unhide HJW) _).push (c := (⟨h.op, e0, 0, 0, h.num, h.val⟩ : Co)) (x := .slice va vn vc) (by simp; omega) (by rw [unhide HM]; exact ho) hgr ((unhide HRW) _)
      have JB : Ste.Jo w0.heap.size w.heap.size w wA v' (cs ++ [((⟨h.op, e0, 0, 0, h.num, h.val⟩ : Co), .slice va vn vc)]) (Ste.lay 0 (Ste.mk h L)) := by
        rw [← unhide HWH, unhide HLL]
        exact JA
      have HJA := hide (And.intro JB.part JB.bel)
      clear JB
      obtain ⟨xa, xc, rfl⟩ := Ste.owns_shape ho
      clear ho hgr JA HROW HJW HRW HNEW HPL OWH c0 c1 c2 c3 c4 c5
      go_wp2_with fail
      go_ret
      exact ⟨_, _, _, rfl, (unhide HJA).1, (unhide HJA).2⟩
    · -- 2 parts
      subst hil
      obtain ⟨ge, gcap, hev, hge, hgl, hec⟩ := Ste.owns_at (unhide HE) (by omega)
      cases hev
      obtain ⟨e0, he0⟩ : ∃ e0, Ste.endAt 0 L 0 = e0 := ⟨_, rfl⟩
      obtain ⟨e1, he1⟩ : ∃ e1, Ste.endAt 0 L 1 = e1 := ⟨_, rfl⟩
      have he2 : Ste.endAt 0 L 2 = 0 := Ste.endAt_no L 2 (by have := unhide HLL; omega)
      have d0 : wr.cell? ⟨ge, 0, none⟩ = some (.int .i64 e0) := by rw [hec 0 (by omega), ← he0]; rfl
      have d1 : wr.cell? ⟨ge, 1, none⟩ = some (.int .i64 e1) := by rw [hec 1 (by omega), ← he1]; rfl
      have y1 : (wr.setCell ⟨w.heap.size, 1, none⟩ (.int .i64 e0)).cell? ⟨ge, 1, none⟩ = some (.int .i64 e1) := ((Ste.cell_far _ (by omega)).trans d1)
      obtain ⟨W, hW⟩ : ∃ W, W = ((wr.setCell ⟨w.heap.size, 1, none⟩ (.int .i64 e0)).setCell ⟨w.heap.size, 2, none⟩ (.int .i64 e1)) := ⟨_, rfl⟩
      have OW : Own W w.heap.size 47 [.int .i64 h.op, .int .i64 e0, .int .i64 e1, .int .i64 0, .int .i64 h.num, (.slice va vn vc)] := by rw [hW]; exact ((OB.set 1 (.int .i64 e0)).set 2 (.int .i64 e1))
      have JW : Ste.Jo w0.heap.size w.heap.size w W (.slice ua m uc) cs (Ste.layL 0 (L.take 2)) := by rw [hW]; exact (((((unhide HJ).old B0 (by omega))).far (j := 1) (x := .int .i64 e0) (Nat.le_refl _) hnb OB).far (j := 2) (x := .int .i64 e1) (Nat.le_refl _) hnb (OB.set 1 (.int .i64 e0)))
      have hWs : w.heap.size < W.heap.size := OW.lt
      have hWs2 : w0.heap.size ≤ W.heap.size := by rw [hW]; simpa using hBr
      have RW := (unhide HRS).below JW.bel
      have HROW := hide (fun o => (JW.below ((Below.refl _ _).alloc (Nat.le_refl _) o) (by omega)).row)
      rw [unhide HM] at HROW
      have HJW := hide (fun o => JW.below ((Below.refl W.heap.size W).alloc (Nat.le_refl _) o) (by omega))
      have HRW := hide (fun o => RW.below ((Below.refl W.heap.size W).alloc (Nat.le_refl _) o))
      have HNEW := hide (Ste.new_six W 47 (.int .i64 h.op) (.int .i64 e0) (.int .i64 e1) (.int .i64 0) (.int .i64 h.num) ((.slice va vn vc)))
      have HPL := hide (Lw.plain_node (⟨h.op, e0, e1, 0, h.num, h.val⟩ : Co) (.slice va vn vc) rfl)
      have HWH := hide (Ste.jn_whole h L h3)
      rw [he0, he1, he2] at HWH
      obtain ⟨c0, c1, c2, c3, c4, c5⟩ := Ste.six_co OB
      have z1 := OB.frozen 1
      have z2 := OB.frozen 2
      have z3 := OB.frozen 3
      have OWH := hide OW
      clear JW OW HJ HE RW OB he0 he1 he2 hec hge hgl
      go_upto_region 25 with fail
      rw [← hW]
      clear hW c0 c1 c2 c3 c4 c5 z1 z2 z3 d0 d1 y1
      obtain ⟨c0, c1, c2, c3, c4, c5⟩ := Ste.six_co (unhide OWH)
      go_wp2_with (at_builtin; refine wpList_append_own _ rfl (.tmp 95) (.tmp 97) 24 rfl w0.heap.size 47 i0 (.agg #[.int .i64 0, .int .i64 0, .int .i64 0, .int .i64 0, .int .i64 0, .slice none 0 0]) 6 64 Tryz.underlying24 hi0 hz0 hz1 hz2 rfl (by decide) _ m _ rfl ((unhide HROW) _) ⟨W.heap.size, 0, none⟩ 1 1 (Lw.nodeV (⟨h.op, e0, e1, 0, h.num, h.val⟩ : Co) (.slice va vn vc)) rfl rfl (unhide HNEW) (unhide HPL) h63 hby (by simp; omega) ?_)
      intro v' wA ho hgr _
      have JA := ((unhide HJW) _).push (c := (⟨h.op, e0, e1, 0, h.num, h.val⟩ : Co)) (x := .slice va vn vc) (by simp; omega) (by rw [unhide HM]; exact ho) hgr ((unhide HRW) _)
      have JB : Ste.Jo w0.heap.size w.heap.size w wA v' (cs ++ [((⟨h.op, e0, e1, 0, h.num, h.val⟩ : Co), .slice va vn vc)]) (Ste.lay 0 (Ste.mk h L)) := by
        rw [← unhide HWH, unhide HLL]
        exact JA
      have HJA := hide (And.intro JB.part JB.bel)
      clear JB
      obtain ⟨xa, xc, rfl⟩ := Ste.owns_shape ho
      clear ho hgr JA HROW HJW HRW HNEW HPL OWH c0 c1 c2 c3 c4 c5
      go_wp2_with fail
      go_ret
      exact ⟨_, _, _, rfl, (unhide HJA).1, (unhide HJA).2⟩
    · -- 3 parts
      subst hil
      obtain ⟨ge, gcap, hev, hge, hgl, hec⟩ := Ste.owns_at (unhide HE) (by omega)
      cases hev
      obtain ⟨e0, he0⟩ : ∃ e0, Ste.endAt 0 L 0 = e0 := ⟨_, rfl⟩
      obtain ⟨e1, he1⟩ : ∃ e1, Ste.endAt 0 L 1 = e1 := ⟨_, rfl⟩
      obtain ⟨e2, he2⟩ : ∃ e2, Ste.endAt 0 L 2 = e2 := ⟨_, rfl⟩
      have d0 : wr.cell? ⟨ge, 0, none⟩ = some (.int .i64 e0) := by rw [hec 0 (by omega), ← he0]; rfl
      have d1 : wr.cell? ⟨ge, 1, none⟩ = some (.int .i64 e1) := by rw [hec 1 (by omega), ← he1]; rfl
      have d2 : wr.cell? ⟨ge, 2, none⟩ = some (.int .i64 e2) := by rw [hec 2 (by omega), ← he2]; rfl
      have y1 : (wr.setCell ⟨w.heap.size, 1, none⟩ (.int .i64 e0)).cell? ⟨ge, 1, none⟩ = some (.int .i64 e1) := ((Ste.cell_far _ (by omega)).trans d1)
      have y2 : ((wr.setCell ⟨w.heap.size, 1, none⟩ (.int .i64 e0)).setCell ⟨w.heap.size, 2, none⟩ (.int .i64 e1)).cell? ⟨ge, 2, none⟩ = some (.int .i64 e2) := ((Ste.cell_far _ (by omega)).trans ((Ste.cell_far _ (by omega)).trans d2))
      obtain ⟨W, hW⟩ : ∃ W, W = (((wr.setCell ⟨w.heap.size, 1, none⟩ (.int .i64 e0)).setCell ⟨w.heap.size, 2, none⟩ (.int .i64 e1)).setCell ⟨w.heap.size, 3, none⟩ (.int .i64 e2)) := ⟨_, rfl⟩
      have OW : Own W w.heap.size 47 [.int .i64 h.op, .int .i64 e0, .int .i64 e1, .int .i64 e2, .int .i64 h.num, (.slice va vn vc)] := by rw [hW]; exact (((OB.set 1 (.int .i64 e0)).set 2 (.int .i64 e1)).set 3 (.int .i64 e2))
      have JW : Ste.Jo w0.heap.size w.heap.size w W (.slice ua m uc) cs (Ste.layL 0 (L.take 3)) := by rw [hW]; exact ((((((unhide HJ).old B0 (by omega))).far (j := 1) (x := .int .i64 e0) (Nat.le_refl _) hnb OB).far (j := 2) (x := .int .i64 e1) (Nat.le_refl _) hnb (OB.set 1 (.int .i64 e0))).far (j := 3) (x := .int .i64 e2) (Nat.le_refl _) hnb ((OB.set 1 (.int .i64 e0)).set 2 (.int .i64 e1)))
      have hWs : w.heap.size < W.heap.size := OW.lt
      have hWs2 : w0.heap.size ≤ W.heap.size := by rw [hW]; simpa using hBr
      have RW := (unhide HRS).below JW.bel
      have HROW := hide (fun o => (JW.below ((Below.refl _ _).alloc (Nat.le_refl _) o) (by omega)).row)
      rw [unhide HM] at HROW
      have HJW := hide (fun o => JW.below ((Below.refl W.heap.size W).alloc (Nat.le_refl _) o) (by omega))
      have HRW := hide (fun o => RW.below ((Below.refl W.heap.size W).alloc (Nat.le_refl _) o))
      have HNEW := hide (Ste.new_six W 47 (.int .i64 h.op) (.int .i64 e0) (.int .i64 e1) (.int .i64 e2) (.int .i64 h.num) ((.slice va vn vc)))
      have HPL := hide (Lw.plain_node (⟨h.op, e0, e1, e2, h.num, h.val⟩ : Co) (.slice va vn vc) rfl)
      have HWH := hide (Ste.jn_whole h L h3)
      rw [he0, he1, he2] at HWH
      obtain ⟨c0, c1, c2, c3, c4, c5⟩ := Ste.six_co OB
      have z1 := OB.frozen 1
      have z2 := OB.frozen 2
      have z3 := OB.frozen 3
      have OWH := hide OW
      clear JW OW HJ HE RW OB he0 he1 he2 hec hge hgl
      go_upto_region 25 with fail
      rw [← hW]
      clear hW c0 c1 c2 c3 c4 c5 z1 z2 z3 d0 d1 d2 y1 y2
      obtain ⟨c0, c1, c2, c3, c4, c5⟩ := Ste.six_co (unhide OWH)
      go_wp2_with (at_builtin; refine wpList_append_own _ rfl (.tmp 95) (.tmp 97) 24 rfl w0.heap.size 47 i0 (.agg #[.int .i64 0, .int .i64 0, .int .i64 0, .int .i64 0, .int .i64 0, .slice none 0 0]) 6 64 Tryz.underlying24 hi0 hz0 hz1 hz2 rfl (by decide) _ m _ rfl ((unhide HROW) _) ⟨W.heap.size, 0, none⟩ 1 1 (Lw.nodeV (⟨h.op, e0, e1, e2, h.num, h.val⟩ : Co) (.slice va vn vc)) rfl rfl (unhide HNEW) (unhide HPL) h63 hby (by simp; omega) ?_)
      intro v' wA ho hgr _
      have JA := ((unhide HJW) _).push (c := (⟨h.op, e0, e1, e2, h.num, h.val⟩ : Co)) (x := .slice va vn vc) (by simp; omega) (by rw [unhide HM]; exact ho) hgr ((unhide HRW) _)
      have JB : Ste.Jo w0.heap.size w.heap.size w wA v' (cs ++ [((⟨h.op, e0, e1, e2, h.num, h.val⟩ : Co), .slice va vn vc)]) (Ste.lay 0 (Ste.mk h L)) := by
        rw [← unhide HWH, unhide HLL]
        exact JA
      have HJA := hide (And.intro JB.part JB.bel)
      clear JB
      obtain ⟨xa, xc, rfl⟩ := Ste.owns_shape ho
      clear ho hgr JA HROW HJW HRW HNEW HPL OWH c0 c1 c2 c3 c4 c5
      go_wp2_with fail
      go_ret
      exact ⟨_, _, _, rfl, (unhide HJA).1, (unhide HJA).2⟩

end Go.Proofs.YtbaanpgbfncdnaaGreat
