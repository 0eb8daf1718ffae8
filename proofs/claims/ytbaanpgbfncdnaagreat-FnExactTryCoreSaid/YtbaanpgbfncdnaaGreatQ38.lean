/-
  impl.stemOf: the last node of a core, as a tree of stems.
-/
import Derived.Test.YtbaanpgbfncdnaaGreatQ24
import Derived.Test.YtbaanpgbfncdnaaGreatQ27
import Derived.Test.YtbaanpgbfncdnaaGreatQ28
import Derived.Test.YtbaanpgbfncdnaaGreatQ37
import Derived.Deep.LoopGhost
import Derived.Maps.AppendAt
namespace Go.Proofs.YtbaanpgbfncdnaaGreat
open Go.RowKit
set_option linter.unusedVariables false
set_option linter.unusedSimpArgs false

theorem Ste.infoPtr : (Tryz.prog.info? 57).map (fun i => (i.zero, i.size, i.bytes)) = some (some (.pointer none), 1, 8) := by kernel_rfl
theorem Ste.owns_sl {w : World} {base : Nat} {e : TypeId} {size : Nat} {v : Value} {n : Nat} {xs : List Value} (h : w.ownsRow base e size v n xs) : ∃ a k c, v = .slice a k c := by
  obtain ⟨_, ⟨h2, _⟩ | ⟨g, cap, cur, h3, _⟩⟩ := h
  · exact ⟨_, _, _, h2⟩
  · exact ⟨_, _, _, h3⟩
theorem Ste.owns_len {w : World} {base : Nat} {e : TypeId} {v : Value} {n : Nat} {xs : List Value} (h : w.ownsRow base e 1 v n xs) : ∃ a c, v = .slice a n c := by
  obtain ⟨h1, ⟨h2, h3⟩ | ⟨g, cap, cur, h3, _⟩⟩ := h
  · exact ⟨none, 0, by rw [h2, h3]⟩
  · exact ⟨_, _, h3⟩
section
variable {P : Program} (w : World)
theorem Ste.step_app {ops : Array Oper} {o : Oper} {a : Act} {K : Act → World → Prop} {Q : Exit → Act → World → Prop} {E : Prop} (hgd : o.guard = none) (s x : Operand) (t : TypeId)
    (ho : o.op = .call { callee := .builtin .append, args := #[s, x], argTypes := #[t, t] })
    (base : Nat) (e : TypeId) (i : TypeInfo) (z : Value) (size bytes : Nat) (ht : P.underlying t = some (.slice e)) (hi : P.info? e = some i) (hz : i.zero = some z)
    (hsize : i.size = size) (hby : i.bytes = bytes) (hzs : z.cells.size = size) (hsz : 0 < size)
    (v : Value) (n : Nat) (xs : List Value) (hs : a.eval s = v) (hown : w.ownsRow base e size v n xs)
    (ad : Addr) (m c : Nat) (news : List Value) (hx : a.eval x = .slice (some ad) m c) (hl : news.length = m * size) (hnews : ∀ j u, news[j]? = some u → w.cell? (ad.add j) = some u) (h1 : ∀ u ∈ news, u.oneCell' = true)
    (h63 : n + m ≤ maxLen) (hbytes : (n + m) * bytes ≤ 140737488355328) (hbase : base ≤ w.heap.size)
    (h : ∀ v' w', w'.ownsRow base e size v' (n + m) (xs ++ news) → w.grownBy w' v.ownBlock → (v'.ownBlock = v.ownBlock ∨ v'.ownBlock = some w.heap.size) → K (a.put o.dst v') w') :
    if Region.wanted o (yielded ops a.tmps) = true then Oper.wp P o a w K Q else E := by
  have hw : Region.wanted o (yielded ops a.tmps) = true := by simp [Region.wanted, hgd]
  rw [if_pos hw]
  obtain ⟨v', w', hr, h2, h3, _, h4⟩ := run_append_own_at (P := P) w base t o.type e i z size bytes ht hi hz hsize hby hzs hsz v n xs hown ad m c news hl hnews h1 h63 hbytes hbase
  unfold Oper.wp execOp
  simp only [ho, resolve, invoke, builtin, Sem.run_bind, Sem.run_pure, Result.andThen_ok, List.map_toArray, List.map_cons, List.map_nil, hs, hx, hr]
  exact h v' w' h2 h3 h4
end

namespace Ste
theorem addr_add0 (b j : Nat) : (⟨b, 0, none⟩ : Addr).add j = ⟨b, j, none⟩ := by unfold Addr.add; split <;> simp_all
theorem cell_keep {w w' : World} {q i : Nat} (h : w'.heap[q]? = w.heap[q]?) : w'.cell? ⟨q, i, none⟩ = w.cell? ⟨q, i, none⟩ := by simp only [World.cell?, h]
/-- What each node names, as it is read. -/
theorem np_view {w : World} {B : Nat} {v : Value} {l : List Co} {gs : List Nat} (h : Tr.NP w B v (Co.tree l) gs) (hg : gs.length = l.length) : ∀ k, k < l.length → ∃ ng lkb, (∃ c, v = .slice (some ⟨ng, 0, none⟩) l.length c) ∧ ng < w.heap.size ∧ B ≤ ng ∧ w.cell? ⟨ng, k, none⟩ = some (.slice (some ⟨lkb, 0, none⟩) (Co.kids (l.getD k Co.zero).op) 3) ∧ lkb < w.heap.size ∧ B ≤ lkb ∧ Own w lkb 2 [.int .i64 (l.getD k Co.zero).a, .int .i64 (l.getD k Co.zero).b, .int .i64 (l.getD k Co.zero).c] := by
  intro k hk
  obtain ⟨h1, h2⟩ := h
  obtain ⟨q1, q2⟩ := h2 k (by omega)
  rw [Co.tree_getD l hk] at q2
  obtain ⟨_, ⟨_, u2⟩ | ⟨gq, cap, cur, u3, u4, u5, u6, u7, u8, u9⟩⟩ := h1
  · omega
  · refine ⟨gq, gs.getD k 0, ⟨cap, by rw [u3, hg]⟩, (Array.getElem?_eq_some_iff.1 u5).1, u4, ?_, q2.lt, q1, q2⟩
    have ho : Own w gq _ cur.toList := ⟨cur, u5, rfl⟩
    rw [ho.cell k]
    have : cur.toList[k]? = (Tr.npL (Co.tree l) gs)[k]? := by rw [← u9, List.getElem?_take, if_pos (by omega)]
    rw [this]
    unfold Tr.npL
    rw [List.getElem?_map, List.getElem?_range (by omega)]
    show some (Tr.npV ((Co.tree l).getD k Nd.zero) (gs.getD k 0)) = _
    rw [Co.tree_getD l hk]
    show some (Value.slice _ (Tr.kids (Co.ndOp _)) 3) = _
    rw [Co.nd_kids]
/-- A node of a core that came in. -/
theorem core_cells {w : World} {b E : Nat} {l : List Co} (h : Co.LaidRow w b E l) (hf : Co.fault l = 0) {k : Nat} (hk : k < l.length) : w.cell? ⟨b, k * 6, none⟩ = some (.int .i64 (l.getD k Co.zero).op) ∧ w.cell? ⟨b, k * 6 + 1, none⟩ = some (.int .i64 (l.getD k Co.zero).a) ∧ w.cell? ⟨b, k * 6 + 2, none⟩ = some (.int .i64 (l.getD k Co.zero).b) ∧ w.cell? ⟨b, k * 6 + 3, none⟩ = some (.int .i64 (l.getD k Co.zero).c) ∧ w.cell? ⟨b, k * 6 + 4, none⟩ = some (.int .i64 (l.getD k Co.zero).num) ∧ ∃ g, w.cell? ⟨b, k * 6 + 5, none⟩ = some (.slice (some ⟨g, 0, none⟩) (l.getD k Co.zero).val.length (l.getD k Co.zero).val.length) ∧ Res w 0 (.slice (some ⟨g, 0, none⟩) (l.getD k Co.zero).val.length (l.getD k Co.zero).val.length) (l.getD k Co.zero).val := by
  obtain ⟨xs, o, _, h3⟩ := h
  obtain ⟨gg, c0, c1, c2, c3, c4, c5, _, _, ho⟩ := h3 k hk
  obtain ⟨_, _, _, _, h0⟩ := tre_whole hf
  have hok := tre_ok h0 _ k (Nat.lt_succ_self _) hk
  have hfit := ((ok_iff _).1 hok).1
  rw [tre_hd (Co.fine_of h0) hk] at hfit
  have hlen : (l.getD k Co.zero).val.length ≤ 1048576 := by
    cases hv : Co.hasVal (l.getD k Co.zero).op with
    | true => have := (len_of_valid (hfit.val hv)).2; simp only at this; omega
    | false => have := hfit.non hv; simp only at this; rw [this]; simp
  exact ⟨(o.cell _).trans c0, (o.cell _).trans c1, (o.cell _).trans c2, (o.cell _).trans c3, (o.cell _).trans c4, gg, (o.cell _).trans c5, hlen, .inr ⟨gg, _, rfl, Nat.zero_le _, Nat.le_refl _, ho.wide⟩⟩
/-- The m-th place that a node names. -/
theorem link_at {l : List Co} (hf : Tr.Fine (Co.tree l)) {k m : Nat} (hk : k < l.length) (hm : m < (lks (l.getD k Co.zero)).length) : [Value.int .i64 (l.getD k Co.zero).a, .int .i64 (l.getD k Co.zero).b, .int .i64 (l.getD k Co.zero).c][m]? = some (.int .i64 ((lks (l.getD k Co.zero)).getD m 0 : Int)) := by
  have hF := hf k (by rw [Co.tree_length]; exact hk)
  rw [Co.tree_links l hk] at hF
  have hl := lks_len (l.getD k Co.zero)
  have h3 := Co.kids_le (l.getD k Co.zero).op
  rw [getD_at _ _ hm]
  unfold lks at hm ⊢
  rw [List.getElem_map]
  have hm2 : m < ([(l.getD k Co.zero).a, (l.getD k Co.zero).b, (l.getD k Co.zero).c].take (Co.kids (l.getD k Co.zero).op)).length := by simpa using hm
  have hge := hF _ (List.getElem_mem hm2)
  rw [Int.toNat_of_nonneg hge.1, List.getElem_take]
  have hm3 : m < 3 := by rw [List.length_take] at hm2; simp at hm2; omega
  have : m = 0 ∨ m = 1 ∨ m = 2 := by omega
  rcases this with rfl | rfl | rfl <;> rfl
def mkP (m : Nat) : Array Value := madeCells #[.pointer none] (m * 1)
theorem mkP_list (m : Nat) : (mkP m).toList = List.replicate m (.pointer none) := by
  refine List.ext_getElem? fun i => ?_
  simp only [mkP]
  rw [Array.getElem?_toList, List.getElem?_replicate]
  by_cases hi : i < m
  · rw [if_pos hi]
    simp [madeCells, hi, Nat.mod_one]
  · rw [if_neg hi, Array.getElem?_eq_none (by simp [size_madeCells]; omega)]
theorem makeP_run (n : Nat) (hn : n ≤ 1048576) (w : World) :
    (Instr.makeSlice 79 (.int .i64 (n : Int)) (.int .i64 (n : Int))).run Tryz.prog w = .ok (.slice (some ⟨w.heap.size, 0, none⟩) n n) (w.alloc (.cells (mkP n) 57)) := by
  obtain ⟨i, hi, hz⟩ := Option.map_eq_some_iff.1 Ste.infoPtr
  simp only [Prod.mk.injEq] at hz
  obtain ⟨h1, h2, h3⟩ := hz
  have := run_make (P := Tryz.prog) w 79 57 i _ Tryz.underlying79 hi h1 .i64 .i64 (n : Int) (n : Int) (by omega) (by omega) (by rw [h3]; omega) (by omega)
  rw [this, h2]
  simp only [Int.toNat_natCast]
  rfl
end Ste
set_option maxRecDepth 100000 in
set_option maxHeartbeats 4000000 in
theorem stemOf_any (b E : Nat) (l : List Co) (w : World) (hrow : Co.LaidRow w b E l) (hfl : Co.fault l = 0) :
    Calls Tryz.prog 42 #[.slice (some ⟨b, 0, none⟩) l.length l.length] w fun e w' => ∃ p R, e = .returned (.pointer (some ⟨p, 0, none⟩)) ∧ Ste.Sh w' (Ste.tre l (l.length - 1)) p R ∧ (∀ k ∈ R, w.heap.size ≤ k) ∧ Below w.heap.size w w' := by
  obtain ⟨_, _, hl1, h900, h0⟩ := Ste.tre_whole hfl
  have hf := Co.fine_of h0
  obtain ⟨i0, hi, hz0, hz1, hz2⟩ := info_parts Ste.infoPtr
  have hmk := Ste.makeP_run l.length (by omega)
  obtain ⟨w0, hw0⟩ : ∃ w0, w.alloc (.cells (Ste.mkP l.length) 57) = w0 := ⟨_, rfl⟩
  have B0 : Below w.heap.size w w0 := by rw [← hw0]; exact (Below.refl _ _).alloc (Nat.le_refl _) _
  have O0 : Own w0 w.heap.size 57 (Ste.ptrs l.length 0 []) := by rw [← hw0, Ste.ptrs_zero]; exact ⟨_, heap_alloc_new _ _, Ste.mkP_list _⟩
  have HR := hide hrow
  have hb := hrow.lt
  have HCP := hide (corePlaces_any b l w0 ((hrow.below B0).row) (Nat.lt_of_lt_of_le hb B0.size) h900 (co_ops h0))
  have HF := hide hf
  have HFL := hide hfl
  clear hrow hf hfl h0
  go_enter Tryz.func42, Tryz.ntmps42
  go_wp2_with fail
  refine (unhide HCP).mono ?_
  rintro e w2 ⟨pv0, gs, rfl, hgl, hNP, hb2⟩
  have hs0 : w0.heap.size = w.heap.size + 1 := by rw [← hw0]; simp
  have BW2 : Below w.heap.size w w2 := B0.trans (hb2.mono B0.size)
  have O2 := O0.below hb2 O0.lt
  have HNPX := hide (Ste.np_view hNP hgl)
  obtain ⟨na, nc, hpv0⟩ := Ste.owns_len hNP.1
  rw [hgl] at hpv0
  subst hpv0
  have hs2 : w0.heap.size ≤ w2.heap.size := hb2.size
  have S0 := hide (show ∃ rr, Ste.Sl l w w2 w.heap.size 0 [] rr from ⟨fun _ => [], rfl, O2, fun j hj => absurd hj (by omega), fun j hj => absurd hj (by omega), fun j hj => absurd hj (by omega), fun i j hi => absurd hi (by omega), BW2⟩)
  have hsb2 : w.heap.size < w2.heap.size := by omega
  have hsbs : w.heap.size + 1 ≤ w0.heap.size := by omega
  clear HCP hNP hgl hmk B0 O0 O2 hb2 hs0 hw0
  go_wp2_with fail
  go_loopg [14] l.length (fun gh s14 wr => ∃ (k : Nat) (ps : List Nat), Hid (gh = l.length - k) ∧ s14 = .int .i64 (k : Int) ∧ k ≤ l.length ∧ Hid (∃ rr, Ste.Sl l w wr w.heap.size k ps rr) ∧ Hid (∀ q, q < w2.heap.size → q ≠ w.heap.size → wr.heap[q]? = w2.heap[q]?) ∧ w2.heap.size ≤ wr.heap.size)
  case atStart => exact ⟨0, [], rfl, rfl, by omega, unhide S0, fun _ _ _ => rfl, Nat.le_refl _⟩
  case round =>
    clear S0
    obtain ⟨k, ps, hgk, rfl, hkl, HSl, HKP, hs2r⟩ := hrel
    obtain ⟨wO, hwO⟩ : ∃ wO : World, wO = wr := ⟨_, rfl⟩
    subst hwO
    by_cases hlt : k < l.length
    · have hltI : (k : Int) < (l.length : Int) := by omega
      have hk0 : (0 : Int) ≤ (k : Int) := by omega
      obtain ⟨rr, hSl⟩ := unhide HSl
      have hbr := hSl.bel
      obtain ⟨ng, lkb, hna, hngl, hngb, hnv, hgkl, hgkb, hgo⟩ := (unhide HNPX) k hlt
      obtain ⟨cc, hna⟩ := hna
      simp only [Value.slice.injEq] at hna
      obtain ⟨hna, _, hncc⟩ := hna
      subst hna
      clear hncc
      have nv := (Ste.cell_keep ((unhide HKP) ng hngl (by omega))).trans hnv
      obtain ⟨f0, f1, f2, f3, f4, vg, f5, hres⟩ := Ste.core_cells ((unhide HR).below hbr) (unhide HFL) hlt
      have hlk := Ste.lks_len (l.getD k Co.zero)
      have hk3 := Co.kids_le (l.getD k Co.zero).op
      have HLF := hide (Ste.lks_fine (unhide HF) hlt)
      have HDONE := hide (fun (wz : World) (pb : Nat) (vv pv : Value) (h : Ste.Sp l w wO wz w.heap.size k ps rr pb (Ste.lks (l.getD k Co.zero)).length vv pv (l.getD k Co.zero)) => h.done (unhide HFL) hlt)
      have HLV := hide (fun m (hm : m < (Ste.lks (l.getD k Co.zero)).length) => Ste.link_at (unhide HF) hlt hm)
      obtain ⟨u0, z0, hSp0⟩ := hSl.stem hlt (c := l.getD k Co.zero) hres
      rw [← hlk] at nv hk3
      clear HSl hbr hlk hSl
      generalize l.getD k Co.zero = c at *
      obtain ⟨m0, hm0⟩ : ∃ m0, m0 = (Ste.lks c).length := ⟨_, rfl⟩
      rw [← hm0] at nv hk3
      have HM0 := hide hm0
      obtain ⟨wA, hwA⟩ : ∃ wA, wO.alloc (.cells #[.int .i64 c.op, .int .i64 c.a, .int .i64 c.b, .int .i64 c.c, .int .i64 c.num, .slice (some ⟨vg, 0, none⟩) c.val.length c.val.length, .slice none 0 0] 81) = wA := ⟨_, rfl⟩
      rw [hwA] at u0 z0 hSp0
      obtain ⟨wS, hwS⟩ : ∃ wS, wA.setCell ⟨w.heap.size, k, none⟩ (.pointer (some ⟨wO.heap.size, 0, none⟩)) = wS := ⟨_, rfl⟩
      rw [hwS] at hSp0
      obtain ⟨uu, u0⟩ := u0
      have HSP0 := hide hSp0
      clear hSp0 hm0
      go_wp2_with fail
      clear hwA hwS u0 z0
      go_loopg [30] m0 (fun gh s30 wq => ∃ (m : Nat) (pv : Value), Hid (gh = m0 - m) ∧ s30 = .int .i64 (m : Int) ∧ m ≤ m0 ∧ Hid (Ste.Sp l w wO wq w.heap.size k ps rr wO.heap.size m (.slice (some ⟨vg, 0, none⟩) c.val.length c.val.length) pv c))
      case atStart => exact ⟨0, _, rfl, rfl, by omega, unhide HSP0⟩
      case round =>
        clear HSP0
        obtain ⟨m, pv, hgm, rfl, hmm, HSP⟩ := hrel
        have hszO : wO.heap.size < wr.heap.size := (unhide HSP).stem.lt
        by_cases hml : m < m0
        · have hmI : (m : Int) < (m0 : Int) := by omega
          have hmn : (0 : Int) ≤ (m : Int) := by omega
          have hm1 : m < (Ste.lks c).length := by rw [← unhide HM0]; exact hml
          obtain ⟨x, hx⟩ : ∃ x, x = (Ste.lks c).getD m 0 := ⟨_, rfl⟩
          have hxk : x < k := by rw [hx, Ste.getD_at _ _ hm1]; exact (unhide HLF) _ (List.getElem_mem hm1)
          have hlv := (unhide HLV) m hm1
          rw [← hx] at hlv
          have cl : wr.cell? ⟨lkb, m, none⟩ = some (.int .i64 (x : Int)) := by
            have k1 := (unhide HSP).kp lkb (by omega) (by omega)
            have k2 := (unhide HKP) lkb hgkl (by omega)
            rw [Ste.cell_keep (k1.trans k2), hgo.cell m]; exact hlv
          have nv2 : wr.cell? ⟨ng, k, none⟩ = some (.slice (some ⟨lkb, 0, none⟩) m0 3) := by
            have k1 := (unhide HSP).kp ng (by omega) (by omega)
            rw [Ste.cell_keep k1]; exact nv
          obtain ⟨pa, pc, hpv⟩ := Ste.owns_len (unhide HSP).row
          subst hpv
          obtain ⟨q1, q2, q3⟩ := (unhide HSP).cells hlt hxk
          have hxI : (x : Int) < (l.length : Int) := by omega
          have hx0 : (0 : Int) ≤ (x : Int) := by omega
          obtain ⟨px, hpx⟩ : ∃ px, px = ps.getD x 0 := ⟨_, rfl⟩
          rw [← hpx] at q3
          have B2 : Below wr.heap.size wr (wr.alloc (.cells #[.pointer (some ⟨px, 0, none⟩)] 57)).drew := ((Below.refl _ _).alloc (Nat.le_refl _) _).drew
          have SP2 := (unhide HSP).lower B2
          obtain ⟨q1a, q2a, q3a⟩ := SP2.cells hlt hxk
          rw [← hpx] at q3a
          have HROW := hide SP2.row
          have X2 : Own (wr.alloc (.cells #[.pointer (some ⟨px, 0, none⟩)] 57)).drew wr.heap.size 57 [.pointer (some ⟨px, 0, none⟩)] := ⟨_, heap_alloc_new wr _, rfl⟩
          have HNW := hide (show ∀ j uu, ([.pointer (some ⟨px, 0, none⟩)] : List Value)[j]? = some uu → (wr.alloc (.cells #[.pointer (some ⟨px, 0, none⟩)] 57)).drew.cell? ((⟨wr.heap.size, 0, none⟩ : Addr).add j) = some uu from fun j uu hu => by
            have ha : (⟨wr.heap.size, 0, none⟩ : Addr).add j = ⟨wr.heap.size, j, none⟩ := Ste.addr_add0 _ j
            rw [ha, X2.cell j]; exact hu)
          have HPN := hide (show ∀ uu ∈ ([.pointer (some ⟨px, 0, none⟩)] : List Value), uu.oneCell' = true from fun uu hu => by simp only [List.mem_singleton] at hu; subst hu; rfl)
          have HBS := hide (show wO.heap.size + 1 ≤ (wr.alloc (.cells #[.pointer (some ⟨px, 0, none⟩)] 57)).drew.heap.size by have := B2.size; omega)
          have hlen := (unhide HSP).len
          have HPUSH := hide (fun (wA : World) (v9 : Value) ho hg => SP2.push (wA := wA) (pv' := v9) hm1 (by rw [← hx, ← hpx]; exact ho) hg)
          have HC1 := hide (fun (wA : World) (hO : Own wA w.heap.size 57 (Ste.ptrs l.length (k + 1) (ps ++ [wO.heap.size]))) => (Ste.own_ptrs hO hlen hlt hxk).1)
          have HC3 := hide (fun (wA : World) (hO : Own wA w.heap.size 57 (Ste.ptrs l.length (k + 1) (ps ++ [wO.heap.size]))) => show wA.cell? ⟨w.heap.size, x, none⟩ = some (.pointer (some ⟨px, 0, none⟩)) by rw [hpx]; exact (Ste.own_ptrs hO hlen hlt hxk).2)
          clear SP2 X2 hlv hx hpx hlen HSP B2 hm1
          go_upto_region 9 with fail
          refine Z.region 19 (fun w' => w'.cell? ⟨w.heap.size, k, none⟩ = some (.pointer (some ⟨wO.heap.size, 0, none⟩)) ∧ w'.cell? ⟨wO.heap.size, 6, none⟩ = some (.slice pa m pc) ∧ w'.cell? ⟨w.heap.size, x, none⟩ = some (.pointer (some ⟨px, 0, none⟩))) (by kernel_rfl) ⟨q1, q2, q3⟩ (fun hHeld => ?_)
          refine Z.take (i := 0) (d := 34) (v := .slice (some ⟨w.heap.size, 0, none⟩) l.length l.length) rfl rfl (by kernel_rfl) (by kernel_rfl) (by kernel_rfl) (by kernel_rfl) (fun _ _ _ h => h) (Or.inl ⟨by rfl, ?_⟩) hHeld ?_
          · intro w' hSw; obtain ⟨s1, s2, s3⟩ := hSw; go_simp
          simp only [Act.put, List.setIfInBounds_toArray, List.set_cons_zero, List.set_cons_succ]
          refine Z.take (i := 1) (d := 35) (v := .int .i64 (k : Int)) rfl rfl (by kernel_rfl) (by kernel_rfl) (by kernel_rfl) (by kernel_rfl) (fun _ _ _ h => h) (Or.inl ⟨by rfl, ?_⟩) hHeld ?_
          · intro w' hSw; obtain ⟨s1, s2, s3⟩ := hSw; go_simp
          simp only [Act.put, List.setIfInBounds_toArray, List.set_cons_zero, List.set_cons_succ]
          refine Z.take (i := 2) (d := 36) (v := .pointer (some ⟨w.heap.size, k, none⟩)) rfl rfl (by kernel_rfl) (by kernel_rfl) (by kernel_rfl) (by kernel_rfl) (fun _ _ _ h => h) (Or.inl ⟨by rfl, ?_⟩) hHeld ?_
          · intro w' hSw; obtain ⟨s1, s2, s3⟩ := hSw; go_simp
          simp only [Act.put, List.setIfInBounds_toArray, List.set_cons_zero, List.set_cons_succ]
          refine Z.take (i := 3) (d := 37) (v := .pointer (some ⟨wO.heap.size, 0, none⟩)) rfl rfl (by kernel_rfl) (by kernel_rfl) (by kernel_rfl) (by kernel_rfl) (fun _ _ _ h => h) (Or.inl ⟨by rfl, ?_⟩) hHeld ?_
          · intro w' hSw; obtain ⟨s1, s2, s3⟩ := hSw; go_simp
          simp only [Act.put, List.setIfInBounds_toArray, List.set_cons_zero, List.set_cons_succ]
          refine Z.take (i := 4) (d := 38) (v := .slice (some ⟨w.heap.size, 0, none⟩) l.length l.length) rfl rfl (by kernel_rfl) (by kernel_rfl) (by kernel_rfl) (by kernel_rfl) (fun _ _ _ h => h) (Or.inl ⟨by rfl, ?_⟩) hHeld ?_
          · intro w' hSw; obtain ⟨s1, s2, s3⟩ := hSw; go_simp
          simp only [Act.put, List.setIfInBounds_toArray, List.set_cons_zero, List.set_cons_succ]
          refine Z.take (i := 5) (d := 39) (v := .int .i64 (k : Int)) rfl rfl (by kernel_rfl) (by kernel_rfl) (by kernel_rfl) (by kernel_rfl) (fun _ _ _ h => h) (Or.inl ⟨by rfl, ?_⟩) hHeld ?_
          · intro w' hSw; obtain ⟨s1, s2, s3⟩ := hSw; go_simp
          simp only [Act.put, List.setIfInBounds_toArray, List.set_cons_zero, List.set_cons_succ]
          refine Z.take (i := 6) (d := 40) (v := .pointer (some ⟨w.heap.size, k, none⟩)) rfl rfl (by kernel_rfl) (by kernel_rfl) (by kernel_rfl) (by kernel_rfl) (fun _ _ _ h => h) (Or.inl ⟨by rfl, ?_⟩) hHeld ?_
          · intro w' hSw; obtain ⟨s1, s2, s3⟩ := hSw; go_simp
          simp only [Act.put, List.setIfInBounds_toArray, List.set_cons_zero, List.set_cons_succ]
          refine Z.take (i := 7) (d := 41) (v := .pointer (some ⟨wO.heap.size, 0, none⟩)) rfl rfl (by kernel_rfl) (by kernel_rfl) (by kernel_rfl) (by kernel_rfl) (fun _ _ _ h => h) (Or.inl ⟨by rfl, ?_⟩) hHeld ?_
          · intro w' hSw; obtain ⟨s1, s2, s3⟩ := hSw; go_simp
          simp only [Act.put, List.setIfInBounds_toArray, List.set_cons_zero, List.set_cons_succ]
          refine Z.take (i := 8) (d := 42) (v := .pointer (some ⟨wO.heap.size, 0, none⟩)) rfl rfl (by kernel_rfl) (by kernel_rfl) (by kernel_rfl) (by kernel_rfl) (fun _ _ _ h => h) (Or.inl ⟨by rfl, ?_⟩) hHeld ?_
          · intro w' hSw; obtain ⟨s1, s2, s3⟩ := hSw; go_simp
          simp only [Act.put, List.setIfInBounds_toArray, List.set_cons_zero, List.set_cons_succ]
          refine Z.take (i := 9) (d := 43) (v := .pointer (some ⟨wO.heap.size, 6, none⟩)) rfl rfl (by kernel_rfl) (by kernel_rfl) (by kernel_rfl) (by kernel_rfl) (fun _ _ _ h => h) (Or.inl ⟨by rfl, ?_⟩) hHeld ?_
          · intro w' hSw; obtain ⟨s1, s2, s3⟩ := hSw; go_simp
          simp only [Act.put, List.setIfInBounds_toArray, List.set_cons_zero, List.set_cons_succ]
          refine Z.take (i := 10) (d := 44) (v := .slice pa m pc) rfl rfl (by kernel_rfl) (by kernel_rfl) (by kernel_rfl) (by kernel_rfl) (fun _ _ _ h => h) (Or.inl ⟨by rfl, ?_⟩) hHeld ?_
          · intro w' hSw; obtain ⟨s1, s2, s3⟩ := hSw; go_simp
          simp only [Act.put, List.setIfInBounds_toArray, List.set_cons_zero, List.set_cons_succ]
          refine Z.take (i := 11) (d := 45) (v := .slice (some ⟨w.heap.size, 0, none⟩) l.length l.length) rfl rfl (by kernel_rfl) (by kernel_rfl) (by kernel_rfl) (by kernel_rfl) (fun _ _ _ h => h) (Or.inl ⟨by rfl, ?_⟩) hHeld ?_
          · intro w' hSw; obtain ⟨s1, s2, s3⟩ := hSw; go_simp
          simp only [Act.put, List.setIfInBounds_toArray, List.set_cons_zero, List.set_cons_succ]
          refine Z.take (i := 12) (d := 46) (v := .int .i64 (x : Int)) rfl rfl (by kernel_rfl) (by kernel_rfl) (by kernel_rfl) (by kernel_rfl) (fun _ _ _ h => h) (Or.inl ⟨by rfl, ?_⟩) hHeld ?_
          · intro w' hSw; obtain ⟨s1, s2, s3⟩ := hSw; go_simp
          simp only [Act.put, List.setIfInBounds_toArray, List.set_cons_zero, List.set_cons_succ]
          refine Z.take (i := 13) (d := 47) (v := .pointer (some ⟨w.heap.size, x, none⟩)) rfl rfl (by kernel_rfl) (by kernel_rfl) (by kernel_rfl) (by kernel_rfl) (fun _ _ _ h => h) (Or.inl ⟨by rfl, ?_⟩) hHeld ?_
          · intro w' hSw; obtain ⟨s1, s2, s3⟩ := hSw; go_simp
          simp only [Act.put, List.setIfInBounds_toArray, List.set_cons_zero, List.set_cons_succ]
          refine Z.take (i := 14) (d := 48) (v := .pointer (some ⟨px, 0, none⟩)) rfl rfl (by kernel_rfl) (by kernel_rfl) (by kernel_rfl) (by kernel_rfl) (fun _ _ _ h => h) (Or.inl ⟨by rfl, ?_⟩) hHeld ?_
          · intro w' hSw; obtain ⟨s1, s2, s3⟩ := hSw; go_simp
          simp only [Act.put, List.setIfInBounds_toArray, List.set_cons_zero, List.set_cons_succ]
          refine Z.ready (rs := [15]) (by kernel_rfl) (by simp) (Z.val_cons (i := 15) (d := 49) (v := .slice (some ⟨wr.heap.size, 0, none⟩) 1 1) (w' := (wr.alloc (.cells #[.pointer (some ⟨px, 0, none⟩)] 57)).drew) rfl (by rfl) ?_ (fun _ => ⟨q1a, q2a, q3a⟩) ?_ Z.All.nil)
          · intro K hK
            go_simp
            exact hK.out
          simp only [Act.put, List.setIfInBounds_toArray, List.set_cons_zero, List.set_cons_succ]
          generalize (wr.alloc (.cells #[.pointer (some ⟨px, 0, none⟩)] 57)).drew = W2 at *
          refine Z.ready (rs := [16]) (by kernel_rfl) (by simp) (Z.All.cons rfl (fun K hK => ?_) Z.All.nil)
          refine Ste.step_app W2 rfl (.tmp 44) (.tmp 49) 79 rfl (wO.heap.size + 1) 57 i0 (.pointer none) 1 8 Tryz.underlying79 hi hz0 hz1 hz2 rfl (by decide) _ m _ rfl (unhide HROW) ⟨wr.heap.size, 0, none⟩ 1 1 [.pointer (some ⟨px, 0, none⟩)] rfl rfl (unhide HNW) (unhide HPN) (by unfold maxLen; omega) (by omega) (unhide HBS) ?_
          intro v9 wA ho hg _
          obtain ⟨hSA, hOA, hSpA⟩ := (unhide HPUSH) wA v9 ho hg
          obtain ⟨ya, yn, yc, hv9⟩ := Ste.owns_sl hSpA.row
          subst hv9
          have a1 := (unhide HC1) wA hOA
          have a3 := (unhide HC3) wA hOA
          have a2 := hSA.cell 6
          have z2 := hSA.frozen 6
          simp only [List.getElem?_cons_zero, List.getElem?_cons_succ] at a2
          refine hK.out _ _ (fun _ => ⟨a1, a2, a3⟩) ?_
          clear hK K
          have FIN := hide hSpA
          clear ho hg hSA hOA hSpA
          simp only [Act.put, List.getElem_toArray, List.getElem_cons_succ, List.getElem_cons_zero, List.setIfInBounds_toArray, List.set_cons_zero, List.set_cons_succ]
          refine Z.ready (rs := [17]) (by kernel_rfl) (by simp) (Z.val_cons (i := 17) (d := 51) (v := .pointer (some ⟨wO.heap.size, 0, none⟩)) (w' := wA) rfl (by rfl) ?_ (fun _ => ⟨a1, a2, a3⟩) ?_ Z.All.nil)
          · intro K hK
            go_simp
            exact hK.out
          simp only [Act.put, List.setIfInBounds_toArray, List.set_cons_zero, List.set_cons_succ]
          refine Z.ready (rs := [18]) (by kernel_rfl) (by simp) (Z.val_cons (i := 18) (d := 52) (v := .pointer (some ⟨wO.heap.size, 6, none⟩)) (w' := wA) rfl (by rfl) ?_ (fun _ => ⟨a1, a2, a3⟩) ?_ Z.All.nil)
          · intro K hK
            go_simp
            exact hK.out
          simp only [Act.put, List.setIfInBounds_toArray, List.set_cons_zero, List.set_cons_succ]
          refine Z.last_at (w' := wA.setCell ⟨wO.heap.size, 6, none⟩ (Value.slice ya yn yc)) rfl (by kernel_rfl) (by rfl) (fun K hK => ?_) ?_
          · go_simp
            exact hK.out
          refine Z.done (by kernel_rfl) ?_ _
          go_wp2_with fail
          go_roundg (m0 - (m + 1))
          case rel => exact ⟨m + 1, _, rfl, by go_num, by omega, unhide FIN⟩
          case measure => have := hgm.out; omega
        · have hmI : ¬ (m : Int) < (m0 : Int) := by omega
          have hme : m = m0 := by omega
          have hD := hide ((unhide HDONE) wr wO.heap.size _ pv (by rw [← unhide HM0, ← hme]; exact unhide HSP))
          have hK2 := hide (show ∀ q, q < w2.heap.size → q ≠ w.heap.size → wr.heap[q]? = w2.heap[q]? from fun q h1 h2 => ((unhide HSP).kp q (by omega) h2).trans ((unhide HKP) q h1 h2))
          clear HSP hme
          go_wp2_with fail
          go_roundg (l.length - (k + 1))
          case rel => exact ⟨k + 1, ps ++ [wO.heap.size], rfl, by go_num, by omega, unhide hD, unhide hK2, by omega⟩
          case measure => have := hgk.out; omega
    · have hke : k = l.length := by omega
      obtain ⟨rr, hSl⟩ := unhide HSl
      subst hke
      have hcl : wO.cell? ⟨w.heap.size, l.length - 1, none⟩ = some (.pointer (some ⟨ps.getD (l.length - 1) 0, 0, none⟩)) := by rw [hSl.own.cell, Ste.ptrs_get (by omega), if_pos (by omega)]
      have hb2 := hSl.bel
      have hsh := hSl.sh (l.length - 1) (by omega)
      have hrow2 := hSl.rows (unhide HF) (Nat.le_refl _) (j := l.length - 1) (by omega)
      have eI : ((l.length : Int) - 1) = ((l.length - 1 : Nat) : Int) := by omega
      have h0I : (0 : Int) ≤ (l.length : Int) - 1 := by omega
      have hlI : (l.length : Int) - 1 < (l.length : Int) := by omega
      have FIN := hide (show ∃ p R, Ending.returned (.pointer (some ⟨ps.getD (l.length - 1) 0, 0, none⟩)) = Ending.returned (.pointer (some ⟨p, 0, none⟩)) ∧ Ste.Sh wO (Ste.tre l (l.length - 1)) p R ∧ (∀ k ∈ R, w.heap.size ≤ k) ∧ Below w.heap.size w wO from ⟨_, _, rfl, hsh, fun q hq => by have := hrow2 q hq; omega, hb2⟩)
      have hin : ((l.length : Int) - 1).toNat = l.length - 1 := by omega
      clear hSl hsh hrow2 hb2 HSl
      generalize ps.getD (l.length - 1) 0 = pz at *
      go_wp2_with fail
      go_ret
      exact unhide FIN

end Go.Proofs.YtbaanpgbfncdnaaGreat
