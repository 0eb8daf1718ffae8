/-
  spec.l8Heights: the heights, or where they cannot be told.
-/
import Derived.Test.YtgjbibkppofjfaaDoorInN
import Derived.Test.YtgjbibkppofjfaaDoorInS
import Derived.Test.YtgjbibkppofjfaaDoorChildT
import Derived.Laws.MakeOwn
namespace Go.Proofs.YtgjbibkppofjfaaDoor
open Go.RowKit
set_option linter.unusedVariables false
set_option linter.unusedSimpArgs false


namespace Ic
def mkI (m : Nat) : Array Value := madeCells #[.int .i64 0] (m * 1)
theorem mkI_list (m : Nat) : (mkI m).toList = (List.replicate m (0 : Int)).map (Value.int .i64) := by
  refine List.ext_getElem? fun i => ?_
  simp only [mkI, List.map_replicate]
  rw [Array.getElem?_toList, List.getElem?_replicate]
  by_cases hi : i < m
  · rw [if_pos hi]
    simp [madeCells, hi, Nat.mod_one]
  · rw [if_neg hi, Array.getElem?_eq_none (by simp [size_madeCells]; omega)]
theorem makeI_run (n : Nat) (hn : n ≤ 1048576) (w : World) :
    (Instr.makeSlice 38 (.int .i64 (n : Int)) (.int .i64 (n : Int))).run Tryd.prog w = .ok (.slice (some ⟨w.heap.size, 0, none⟩) n n) (w.alloc (.cells (mkI n) 2)) := by
  obtain ⟨i, hi, hz⟩ := Option.map_eq_some_iff.1 Tryd.info2
  simp only [Prod.mk.injEq] at hz
  obtain ⟨h1, h2, h3⟩ := hz
  have := run_make (P := Tryd.prog) w 38 2 i _ Tryd.underlying38 hi h1 .i64 .i64 (n : Int) (n : Int) (by omega) (by omega) (by rw [h3]; omega) (by omega)
  rw [this, h2]
  simp only [Int.toNat_natCast]
  rfl
/-- What the model's heights answer. -/
def HtSaid (w : World) (l : List Ic) (e : Ending) (w' : World) : Prop := ∃ x : Int, e = .returned (.tuple #[.slice (some ⟨w.heap.size, 0, none⟩) l.length l.length, .int .i64 x]) ∧ Below w.heap.size w w' ∧ ((∃ o, htF l l.length = .inl o ∧ x = -1 ∧ Iw w' w.heap.size o ∧ o.length = l.length) ∨ (∃ k : Nat, htF l l.length = .inr k ∧ x = (k : Int) ∧ k < l.length))
/-- What the loop holds. -/
structure Hs (w wr : World) (l : List Ic) (k : Nat) (out : List Int) : Prop where
  iw : Iw wr w.heap.size out
  bel : Below w.heap.size w wr
  ht : htF l k = .inl out
  fr : Fr l.length ((k : Int) + 1) out
/-- What the loop over the places holds. -/
structure Nx (w wr : World) (n : Nat) (B : Int) (o : List Int) (v : Value) (ps : List Int) : Prop where
  iw : Iw wr w.heap.size o
  bel : Below w.heap.size w wr
  fr : Fr n B o
  row : wr.ownsRow (w.heap.size + 1) 2 1 v ps.length (ps.map (Value.int .i64))
theorem Nx.first {w wr : World} {n : Nat} {B : Int} {o : List Int} (h1 : Iw wr w.heap.size o) (h2 : Below w.heap.size w wr) (h3 : Fr n B o) : Nx w (wr.alloc (.cells #[] 2)) n B o (.slice (some ⟨wr.heap.size, 0, none⟩) 0 0) [] :=
  ⟨h1.keep (Below.heap_alloc _ _ _ (Own.lt h1)), h2.alloc h2.size _, h3, ⟨rfl, .inr ⟨wr.heap.size, 0, #[], rfl, by have := Own.lt h1; omega, heap_alloc_new _ _, Nat.le_refl _, by simp [maxLen], rfl, rfl⟩⟩⟩
theorem Nx.put {w wr w3 : World} {n : Nat} {B : Int} {o : List Int} {v v' : Value} {ps : List Int} {ob : Obj} {p : Int} (h : Nx w wr n B o v ps) (hg : (wr.alloc ob).grownBy w3 v.ownBlock) (ho : w3.ownsRow (w.heap.size + 1) 2 1 v' (ps.length + 1) (ps.map (Value.int .i64) ++ [.int .i64 p])) : Nx w w3 n B o v' (ps ++ [p]) := by
  have hlt := Own.lt h.iw
  have hbase : ∀ k, v.ownBlock = some k → w.heap.size + 1 ≤ k := by
    obtain ⟨_, ⟨h1, _⟩ | ⟨g, c, cur, h2, hg, _⟩⟩ := h.row
    · intro k hk; rw [h1] at hk; simp [Value.ownBlock] at hk
    · intro k hk; rw [h2] at hk; simp only [Value.ownBlock, Option.some.injEq] at hk; omega
  have kp : ∀ k, k ≤ w.heap.size → w3.heap[k]? = wr.heap[k]? := fun k hk => by
    rw [hg.block k (by simp; omega) (fun e => by have := hbase k e.symm; omega)]
    exact Below.heap_alloc _ _ _ (by omega)
  refine ⟨h.iw.keep (kp _ (Nat.le_refl _)), ⟨hg.os.trans h.bel.os, hg.tape.trans h.bel.tape, hg.output.trans h.bel.output, by have h1 := hg.size; rw [World.size_alloc] at h1; have := h.bel.size; omega, fun k hk => (kp k (by omega)).trans (h.bel.block k hk)⟩, h.fr, ?_⟩
  rw [List.map_append, List.length_append]
  exact ho
theorem Nx.shape {w wr : World} {n : Nat} {B : Int} {o : List Int} {v : Value} {ps : List Int} (h : Nx w wr n B o v ps) : ∃ (a : Option Addr) (c : Nat), v = .slice a ps.length c := by
  obtain ⟨h0, h1 | ⟨g, c, cur, h2, hg, hh, rest⟩⟩ := h.row
  · exact ⟨none, 0, by rw [h1.1, h1.2]⟩
  · exact ⟨_, _, h2⟩
/-- The place at j. -/
theorem Nx.at {w wr : World} {n : Nat} {B : Int} {o : List Int} {a : Option Addr} {c : Nat} {ps : List Int} (h : Nx w wr n B o (.slice a ps.length c) ps) {j : Nat} (hj : j < ps.length) : ∃ g : Nat, a = some ⟨g, 0, none⟩ ∧ ps.length ≤ c ∧ wr.cell? ⟨g, j, none⟩ = some (.int .i64 (ps.getD j 0)) := by
  obtain ⟨h0, ⟨h1, h2⟩ | ⟨g, c', cur, h2, hg, hh, hc, hc2, hc3, hc4⟩⟩ := h.row
  · omega
  · injection h2 with e1 _ e3
    have O : Own wr g 2 cur.toList := ⟨cur, hh, rfl⟩
    refine ⟨g, e1, by omega, ?_⟩
    have e := O.cell j
    rw [e, show cur.toList[j]? = (cur.toList.take (ps.length * 1))[j]? from (List.getElem?_take_of_lt (by omega)).symm, hc4, List.getElem?_map, List.getElem?_eq_getElem hj, List.getD_eq_getElem?_getD, List.getElem?_eq_getElem hj]
    rfl
/-- A height laid. -/
theorem Nx.lay {w wr : World} {n : Nat} {B : Int} {o : List Int} {v : Value} {ps : List Int} (h : Nx w wr n B o v ps) (q : Nat) (x : Int) (h0 : -1 ≤ x) (h1 : x ≤ B) (hB : -1 ≤ B) : Nx w (wr.setCell ⟨w.heap.size, q, none⟩ (.int .i64 x)) n B (o.set q x) v ps := by
  refine ⟨h.iw.set q x, h.bel.setCell (Nat.le_refl _) _, h.fr.set q x h0 h1 hB, ?_⟩
  obtain ⟨r0, r1 | ⟨g, c, cur, r2, hg, hh, rest⟩⟩ := h.row
  · exact ⟨r0, .inl r1⟩
  · exact ⟨r0, .inr ⟨g, c, cur, r2, hg, (heap_setCell_other _ ⟨w.heap.size, q, none⟩ g _ (by simp only; omega)).trans hh, rest⟩⟩
end Ic

set_option maxRecDepth 100000 in
set_option maxHeartbeats 8000000 in
theorem l8Heights_any (b : Nat) (l : List Ic) (rg : Int) (w : World) (hrow : Ic.Row w b l) (hb : b < w.heap.size) (h1 : 1 ≤ l.length) (hn : l.length ≤ 6000) (hall : ∀ j, j < l.length → Ic.oneF (l.getD j Ic.zero) j l.length rg = 0) :
    Calls Tryd.prog 29 #[.slice (some ⟨b, 0, none⟩) l.length l.length] w (Ic.HtSaid w l) := by
  obtain ⟨i0, hi0, hz0, hz1, hz2⟩ := info_parts Tryd.info2
  have hmk := Ic.makeI_run l.length (by omega)
  have HR := hide hrow
  have HA := hide hall
  have O0 := hide (show Iw (w.alloc (.cells (Ic.mkI l.length) 2)) w.heap.size (List.replicate l.length 0) from ⟨_, heap_alloc_new _ _, Ic.mkI_list _⟩)
  have B0 := hide ((Below.refl w.heap.size w).alloc (Nat.le_refl _) (.cells (Ic.mkI l.length) 2))
  clear hrow hall
  go_enter Tryd.func29, Tryd.ntmps29
  go_wp2_with fail
  go_loopg [5] l.length (fun gh s5 wr => ∃ (k : Nat) (xs : List Int), Hid (gh = l.length - k) ∧ s5 = .int .i64 (k : Int) ∧ k ≤ l.length ∧ Hid (xs.length = l.length ∧ ∀ j, j < k → xs.getD j 0 = -1) ∧ Hid (Iw wr w.heap.size xs) ∧ Hid (Below w.heap.size w wr))
  case atStart => exact ⟨0, List.replicate l.length 0, rfl, rfl, by omega, ⟨by simp, fun j hj => absurd hj (by omega)⟩, unhide O0, unhide B0⟩
  case round =>
    obtain ⟨k, xs, hg, rfl, hk, hxs, hiw, hbel⟩ := hrel
    clear hmk O0 B0
    by_cases hlt : k < l.length
    · have hltI : (k : Int) < (l.length : Int) := by omega
      have hk0 : (0 : Int) ≤ (k : Int) := by omega
      have f := hiw.out.cell (j := k) (by rw [hxs.out.1]; exact hlt)
      have z := Own.frozen hiw.out k
      have hx2 := hide (show (xs.set k (-1)).length = l.length ∧ ∀ j, j < k + 1 → (xs.set k (-1)).getD j 0 = -1 from ⟨by rw [List.length_set]; exact hxs.out.1, fun j hj => by
        rw [List.getD_eq_getElem?_getD, List.getElem?_set]
        by_cases e : k = j
        · rw [if_pos e, if_pos (by rw [hxs.out.1]; exact hlt)]; rfl
        · rw [if_neg e, ← List.getD_eq_getElem?_getD]; exact hxs.out.2 j (by omega)⟩)
      have I2 := hide (hiw.out.set k (-1))
      have B2 := hide (hbel.out.setCell (p := ⟨w.heap.size, k, none⟩) (Nat.le_refl _) (.int .i64 (-1)))
      clear hxs hiw hbel
      go_wp2_with fail
      go_roundg (l.length - (k + 1))
      case rel => exact ⟨k + 1, _, rfl, by go_num, by omega, unhide hx2, unhide I2, unhide B2⟩
      case measure => have := hg.out; omega
    · have hltI : ¬ (k : Int) < (l.length : Int) := by omega
      have hxe : xs = List.replicate l.length (-1) := by
        refine List.ext_getElem (by rw [hxs.out.1]; simp) fun j hj1 hj2 => ?_
        have := hxs.out.2 j (by rw [hxs.out.1] at hj1; omega)
        rw [List.getD_eq_getElem?_getD, List.getElem?_eq_getElem hj1] at this
        simpa using this
      have h1I : (0 : Int) < (l.length : Int) := by omega
      have f := hiw.out.cell (j := 0) (by rw [hxs.out.1]; exact h1)
      have z := Own.frozen hiw.out 0
      have I2 := hiw.out.set 0 1
      rw [hxe] at I2
      have S2 := hide (show Ic.Hs w (wr.setCell ⟨w.heap.size, 0, none⟩ (.int .i64 1)) l 0 (Ic.start l.length) from ⟨I2, hbel.out.setCell (p := ⟨w.heap.size, 0, none⟩) (Nat.le_refl _) _, rfl, Ic.start_fr _⟩)
      clear hxs hiw hbel hxe I2 hlt hk
      go_wp2_with fail
      generalize wr.setCell ⟨w.heap.size, 0, none⟩ (.int .i64 1) = wz at *
      clear f z hg
      go_loopg [6] l.length (fun gh s6 wr => ∃ (k : Nat) (out : List Int), Hid (gh = l.length - k) ∧ s6 = .int .i64 (k : Int) ∧ k ≤ l.length ∧ Hid (Ic.Hs w wr l k out))
      case atStart => exact ⟨0, _, rfl, rfl, by omega, unhide S2⟩
      case round =>
        obtain ⟨k, out, hg, rfl, hk, HS⟩ := hrel
        clear S2
        by_cases hlt : k < l.length
        · have hltI : (k : Int) < (l.length : Int) := by omega
          have hk0 : (0 : Int) ≤ (k : Int) := by omega
          have hfr := (unhide HS).fr
          have fx := (unhide HS).iw.cell (j := k) (by rw [hfr.1]; exact hlt)
          have hxb := hfr.2 k
          obtain ⟨f0, f1, g, f2, hgl, hvr⟩ := ((unhide HR).below (unhide HS).bel hb) k hlt
          have HF1 := hide (fun W (hW : Below w.heap.size w W) => (((unhide HR).below hW hb) k hlt).2.1)
          have hone := (unhide HA) k hlt
          have hop := (Ic.one_parts hone).1
          have HPB := hide (Ic.places_bd hone)
          have HJB := hide (fun hj => Ic.one_jump hone hj)
          have HST := hide (fun h => Ic.step_none (l := l) (i := k) (out := out) h)
          have HSF := hide (fun h h1 => Ic.step_few (l := l) (i := k) (out := out) h h1)
          have HSG := hide (fun h h1 => Ic.step_go (l := l) (i := k) (out := out) h h1)
          have HTK := Ic.takes_bd (l.getD k Ic.zero).op
          have HLY := Ic.lays_bd (l.getD k Ic.zero).op
          have HLT2 := Ic.lays_takes (l.getD k Ic.zero).op
          have PB := hide (fun h => Ic.places_back (c := l.getD k Ic.zero) (i := k) h)
          have PJ := hide (fun h => Ic.places_jump (c := l.getD k Ic.zero) (i := k) h)
          have P2 := hide (fun h h1 => Ic.places_both (c := l.getD k Ic.zero) (i := k) h h1)
          have PN := hide (fun h h1 => Ic.places_next (c := l.getD k Ic.zero) (i := k) h h1)
          generalize Ic.places (l.getD k Ic.zero) k = PL at *
          generalize l.getD k Ic.zero = c at *
          obtain ⟨op, arg, val⟩ := c
          simp only at f0 f1 f2 hop HF1 HJB HSF HSG HTK HLY HLT2 PB PJ P2 PN
          obtain ⟨x, hx⟩ : ∃ x, x = out.getD k (-1) := ⟨_, rfl⟩
          rw [← hx] at fx hxb HST HSF HSG
          have HM := hide (fun wq => l8Moves_any op wq hop.1 hop.2)
          have HJ := hide (fun wq => l8Jumps_any op wq)
          generalize Ic.takes op = tk at *
          generalize Ic.lays op = ly at *
          have HH := hide (unhide HS).ht
          have HLT := hide hlt
          clear hfr hgl hvr hone f2 hx
          by_cases hneg : x < 0
          · have g1 : decide (x < 0) = true := decide_eq_true hneg
            have S3 := hide (show Ic.Hs w wr l (k + 1) out from ⟨(unhide HS).iw, (unhide HS).bel, Ic.ht_next (unhide HH) ((unhide HST) hneg), (unhide HS).fr.mono (by omega)⟩)
            clear hneg HS
            go_wp2_with fail
            go_roundg (l.length - (k + 1))
            case rel => exact ⟨k + 1, out, rfl, by go_num, by omega, unhide S3⟩
            case measure => have := hg.out; omega
          have g1 : decide (x < 0) = false := decide_eq_false hneg
          by_cases hfew : x < tk
          · have fin := hide (show Ic.HtSaid w l (.returned (.tuple #[.slice (some ⟨w.heap.size, 0, none⟩) l.length l.length, .int .i64 (k : Int)])) wr from
              ⟨_, rfl, (unhide HS).bel, .inr ⟨k, Ic.ht_bad (unhide HH) ((unhide HSF) hneg hfew) hlt, rfl, hlt⟩⟩)
            clear HS hneg
            go_wp2_with fail
            refine ((unhide HM) _).mono ?_
            rintro e w2 ⟨rfl, hw2⟩
            rw [hw2]
            clear hw2
            go_wp2_with fail
            go_ret2
            exact unhide fin
          have g2 : decide (x < tk) = false := decide_eq_false hfew
          have HGO := hide ((unhide HSG) hneg hfew)
          clear HSG HSF HST
          by_cases hbk : op = 15 ∨ op = 19
          · have S3 := hide (show Ic.Hs w wr l (k + 1) out from ⟨(unhide HS).iw, (unhide HS).bel, Ic.ht_next (unhide HH) ((unhide HGO).trans (by rw [(unhide PB) hbk]; rfl)), (unhide HS).fr.mono (by omega)⟩)
            clear HS hneg hfew
            have hbb : (op == 15) = true ∨ ((op == 15) = false ∧ (op == 19) = true) := by
              rcases hbk with h | h
              · exact .inl (by simp [h])
              · exact .inr ⟨by simp [h], by simp [h]⟩
            clear hbk
            rcases hbb with b1 | ⟨b1, b2⟩
            all_goals
              go_wp2_with fail
              refine ((unhide HM) _).mono ?_
              rintro e w2 ⟨rfl, hw2⟩
              rw [hw2]
              clear hw2
              go_wp2_with fail
              go_roundg (l.length - (k + 1))
              case rel => exact ⟨k + 1, out, rfl, by go_num, by omega, unhide S3⟩
              case measure => have := hg.out; omega
          have b1 : (op == 15) = false := ne_beq (fun e => hbk (.inl e))
          have b2 : (op == 19) = false := ne_beq (fun e => hbk (.inr e))
          have wr1 : IntKind.i64.wrap (x - tk) = x - tk := IntWalk.i64_in _ ⟨by omega, by omega⟩
          have wr3 : IntKind.i64.wrap ((k : Int) + 1) = (k : Int) + 1 := IntWalk.i64_in _ ⟨by omega, by omega⟩
          obtain ⟨h, hh⟩ : ∃ h, h = x - tk + ly := ⟨_, rfl⟩
          have hh0 : 0 ≤ h := by omega
          have hh1 : h ≤ (k : Int) + 2 := by omega
          have wr2 : IntKind.i64.wrap (x - tk + ly) = h := by rw [hh]; exact IntWalk.i64_in _ ⟨by omega, by omega⟩
          rw [← hh] at HGO
          have N0 := hide (Ic.Nx.first (unhide HS).iw (unhide HS).bel ((unhide HS).fr.mono (show (k : Int) + 1 ≤ (k : Int) + 2 by omega)))
          have HBK := hide hbk
          have f1a := (unhide HF1) _ (unhide N0).bel
          have hszw := Own.lt (unhide HS).iw
          clear HS hneg hfew hbk hh PB hxb HTK HLY HLT2
          cases hj : Ic.jumps op with
          | true =>
            have HJT := hide hj
            have harg := (unhide HJB) hj
            by_cases h10 : op = 10
            · have HPL := hide ((unhide PJ) h10)
              have g10 : (op != 10) = false := by simp [h10]
              clear h10 hj PJ P2 PN HJB
              go_wp2_with fail
              refine ((unhide HM) _).mono ?_
              rintro e w2 ⟨rfl, hw2⟩
              rw [hw2]
              clear hw2
              go_wp2_with fail
              refine ((unhide HJ) _).mono ?_
              rintro e w2 ⟨rfl, hw2⟩
              rw [hw2, unhide HJT]
              clear hw2
              have hown' := hide (fun ob => World.ownsRow.alloc (unhide N0).row ob)
              have hone : Hid (∀ (j : Nat) (u : Value), ([Value.int .i64 (arg)] : List Value)[j]? = some u → ((wr.alloc (.cells #[] 2)).alloc (.cells #[.int .i64 (arg)] 2)).cell? ((⟨wr.heap.size + 1, 0, none⟩ : Addr).add j) = some u) := by
                have h9 := one_word (wr.alloc (.cells #[] 2)) (arg)
                rw [World.size_alloc] at h9
                exact h9
              have honep := hide (one_plain (arg))
              have HP := hide (fun (W : World) v' ob hg ho => (unhide N0).put (v' := v') (w3 := W) (ob := ob) (p := arg) hg ho)
              have hb63 : 0 + 1 ≤ maxLen := by unfold maxLen; omega
              have hby : (0 + 1) * 8 ≤ 140737488355328 := by omega
              go_wp2_with (at_builtin; refine wpList_append_own _ rfl (.tmp 80) (.tmp 86) 38 rfl (w.heap.size + 1) 2 i0 (.int .i64 0) 1 8 Tryd.underlying38 hi0 hz0 hz1 hz2 rfl (by decide) _ 0 _ rfl ((unhide hown') _) ⟨wr.heap.size + 1, 0, none⟩ 1 1 [.int .i64 (arg)] rfl rfl (unhide hone) (unhide honep) hb63 hby (by simp; omega) ?_)
              intro v7 w7 ho7 hg7 _
              obtain ⟨ps1, hps1⟩ : ∃ ps1 : List Int, ps1 = [arg] := ⟨_, rfl⟩
              have N7 := hide (show Ic.Nx w w7 l.length ((k : Int) + 2) out v7 ps1 by rw [hps1]; exact (unhide HP) w7 v7 _ hg7 ho7)
              clear ho7 hg7 HP hown' hone honep N0 hb63 hby
              obtain ⟨a7, c7, rfl⟩ := (unhide N7).shape
              have f17 := (unhide HF1) _ (unhide N7).bel
              have HPS1 := hide hps1
              clear hps1
              have HEQ := hide (show PL = ps1 by rw [unhide HPS1]; exact unhide HPL)
              have hpl2 : ps1.length ≤ 2 := by rw [unhide HPS1]; simp
              clear HPS1
              have NN := N7
              clear N7
              generalize hE1 : a7 = av at *
              generalize hE2 : c7 = cv at *
              generalize hE3 : ps1 = ps at *
              clear hE1 hE2 hE3
              have HBD : Hid (∀ j, j < ps.length → ∃ q : Nat, ps.getD j 0 = (q : Int) ∧ True) := fun j hj => by
                have hm : ps.getD j 0 ∈ PL := by rw [unhide HEQ, List.getD_eq_getElem?_getD, List.getElem?_eq_getElem hj]; exact List.getElem_mem hj
                have := (unhide HPB) _ hm
                exact ⟨(ps.getD j 0).toNat, by omega, trivial⟩
              have HPS := hide (show Ic.putAll l.length h (ps.drop 0) out = Ic.step l k out by rw [List.drop_zero, ← unhide HEQ]; exact (unhide HGO).symm)
              clear HEQ HPB HGO HPL
              go_wp2_with fail
              go_loopg [12] ps.length (fun gh s12 wq => ∃ (j : Nat) (o : List Int), Hid (gh = ps.length - j) ∧ s12 = .int .i64 (j : Int) ∧ j ≤ ps.length ∧ Hid (Ic.putAll l.length h (ps.drop j) o = Ic.step l k out) ∧ Hid (Ic.Nx w wq l.length ((k : Int) + 2) o (.slice av ps.length cv) ps))
              case atStart => exact ⟨0, out, rfl, rfl, by omega, unhide HPS, unhide NN⟩
              case round =>
                obtain ⟨j, o, hgj, rfl, hj, hpj, HN⟩ := hrel
                clear NN HPS
                by_cases hjlt : j < ps.length
                · have hjI : (j : Int) < (ps.length : Int) := by omega
                  have hj0 : (0 : Int) ≤ (j : Int) := by omega
                  obtain ⟨gn, rfl, hcv, fp⟩ := (unhide HN).at hjlt
                  obtain ⟨q, hq, hqb⟩ := (unhide HBD) j hjlt
                  rw [hq] at fp
                  have hdrop : ps.drop j = (q : Int) :: ps.drop (j + 1) := by
                    rw [List.drop_eq_getElem_cons hjlt, ← hq, List.getD_eq_getElem?_getD, List.getElem?_eq_getElem hjlt]; rfl
                  have HPJ := hide (show Ic.putAll l.length h ((q : Int) :: ps.drop (j + 1)) o = Ic.step l k out by rw [← hdrop]; exact hpj.out)
                  have hq0 : (0 : Int) ≤ (q : Int) := by omega
                  have hgg : ∀ x : Int, IntKind.i64.wrap x = IntKind.i64.wrap x := fun _ => rfl
                  clear hpj hdrop hq hgg
                  by_cases hqn : l.length ≤ q
                  · have hqI : (l.length : Int) ≤ (q : Int) := by omega
                    have fin := hide (show Ic.HtSaid w l (.returned (.tuple #[.slice (some ⟨w.heap.size, 0, none⟩) l.length l.length, .int .i64 (k : Int)])) wr from
                      ⟨_, rfl, (unhide HN).bel, .inr ⟨k, Ic.ht_bad (unhide HH) ((unhide HPJ).symm.trans (Ic.putAll_bad (Ic.put_bad (.inl hqI)))) (unhide HLT), rfl, unhide HLT⟩⟩)
                    clear hqn HN HPJ
                    go_wp2_with fail
                    go_ret2
                    exact unhide fin
                  · have hqI : ¬ (l.length : Int) ≤ (q : Int) := by omega
                    have hqI2 : (q : Int) < (l.length : Int) := by omega
                    have hfr := (unhide HN).fr
                    have fo := (unhide HN).iw.cell (j := q) (by rw [hfr.1]; omega)
                    have zo := Own.frozen (unhide HN).iw q
                    have hyb := hfr.2 q
                    have hqt : ((q : Int)).toNat = q := by omega
                    obtain ⟨y, hy⟩ : ∃ y, y = o.getD q (-1) := ⟨_, rfl⟩
                    rw [← hy] at fo hyb
                    have BAD := hide (fun hh : 0 ≤ y ∧ y ≠ h => show Ic.put l.length h o (q : Int) = none from Ic.put_bad (.inr (by rw [hqt, ← hy]; exact hh)))
                    have OKP := hide (fun hh : ¬ (0 ≤ y ∧ y ≠ h) => show Ic.put l.length h o (q : Int) = some (o.set q h) from (Ic.put_ok (by rw [hqt, ← hy]; rintro (h1 | h1); exact hqI h1; exact hh h1)).trans (by rw [hqt]))
                    have HG := hide hqI
                    clear hy hqt hfr hqI
                    have hqD : decide ((l.length : Int) ≤ (q : Int)) = false := decide_eq_false (unhide HG)
                    by_cases hy0 : 0 ≤ y
                    · by_cases hyh : y = h
                      · have g1 : (y != h) = false := by simp [hyh]
                        have N2 := hide ((unhide HN).lay q h (by omega) (by omega) (by omega))
                        have HP2 := hide ((Ic.putAll_go ((unhide OKP) (fun e => e.2 hyh))).symm.trans (unhide HPJ))
                        clear hyh HN BAD OKP HPJ
                        go_wp2_with fail
                        go_roundg (ps.length - (j + 1))
                        case rel => exact ⟨j + 1, _, rfl, by go_num, by omega, unhide HP2, unhide N2⟩
                        case measure => have := hgj.out; omega
                      · have g1 : (y != h) = true := by simpa using hyh
                        have fin := hide (show Ic.HtSaid w l (.returned (.tuple #[.slice (some ⟨w.heap.size, 0, none⟩) l.length l.length, .int .i64 (k : Int)])) wr from
                          ⟨_, rfl, (unhide HN).bel, .inr ⟨k, Ic.ht_bad (unhide HH) ((unhide HPJ).symm.trans (Ic.putAll_bad ((unhide BAD) ⟨hy0, hyh⟩))) (unhide HLT), rfl, unhide HLT⟩⟩)
                        clear hyh HN BAD OKP HPJ
                        go_wp2_with fail
                        go_ret2
                        exact unhide fin
                    · have hyD : decide (0 ≤ y) = false := decide_eq_false hy0
                      have N2 := hide ((unhide HN).lay q h (by omega) (by omega) (by omega))
                      have HP2 := hide ((Ic.putAll_go ((unhide OKP) (fun e => hy0 e.1))).symm.trans (unhide HPJ))
                      clear hy0 HN BAD OKP HPJ
                      go_wp2_with fail
                      go_roundg (ps.length - (j + 1))
                      case rel => exact ⟨j + 1, _, rfl, by go_num, by omega, unhide HP2, unhide N2⟩
                      case measure => have := hgj.out; omega
                · have hjI : ¬ (j : Int) < (ps.length : Int) := by omega
                  have hnext := hide (show Ic.Hs w wr l (k + 1) o from by
                    have e : ps.drop j = [] := List.drop_eq_nil_of_le (by omega)
                    have e2 := hpj.out
                    rw [e] at e2
                    exact ⟨(unhide HN).iw, (unhide HN).bel, Ic.ht_next (unhide HH) e2.symm, (unhide HN).fr.mono (by omega)⟩)
                  clear hjlt HN hpj
                  go_wp2_with fail
                  go_roundg (l.length - (k + 1))
                  case rel => exact ⟨k + 1, o, rfl, by go_num, by have := unhide HLT; omega, unhide hnext⟩
                  case measure => have := hg.out; have := unhide HLT; omega
            · have HPL := hide ((unhide P2) h10 hj)
              have g10 : (op != 10) = true := by simpa using h10
              clear h10 hj PJ P2 PN HJB
              go_wp2_with fail
              refine ((unhide HM) _).mono ?_
              rintro e w2 ⟨rfl, hw2⟩
              rw [hw2]
              clear hw2
              have hown' := hide (fun ob => World.ownsRow.alloc (unhide N0).row ob)
              have hone : Hid (∀ (j : Nat) (u : Value), ([Value.int .i64 ((k : Int) + 1)] : List Value)[j]? = some u → ((wr.alloc (.cells #[] 2)).alloc (.cells #[.int .i64 ((k : Int) + 1)] 2)).cell? ((⟨wr.heap.size + 1, 0, none⟩ : Addr).add j) = some u) := by
                have h9 := one_word (wr.alloc (.cells #[] 2)) ((k : Int) + 1)
                rw [World.size_alloc] at h9
                exact h9
              have honep := hide (one_plain ((k : Int) + 1))
              have HP := hide (fun (W : World) v' ob hg ho => (unhide N0).put (v' := v') (w3 := W) (ob := ob) (p := (k : Int) + 1) hg ho)
              have hb63 : 0 + 1 ≤ maxLen := by unfold maxLen; omega
              have hby : (0 + 1) * 8 ≤ 140737488355328 := by omega
              go_wp2_with (at_builtin; refine wpList_append_own _ rfl (.tmp 73) (.tmp 76) 38 rfl (w.heap.size + 1) 2 i0 (.int .i64 0) 1 8 Tryd.underlying38 hi0 hz0 hz1 hz2 rfl (by decide) _ 0 _ rfl ((unhide hown') _) ⟨wr.heap.size + 1, 0, none⟩ 1 1 [.int .i64 ((k : Int) + 1)] rfl rfl (unhide hone) (unhide honep) hb63 hby (by simp; omega) ?_)
              intro v7 w7 ho7 hg7 _
              obtain ⟨ps1, hps1⟩ : ∃ ps1 : List Int, ps1 = [(k : Int) + 1] := ⟨_, rfl⟩
              have N7 := hide (show Ic.Nx w w7 l.length ((k : Int) + 2) out v7 ps1 by rw [hps1]; exact (unhide HP) w7 v7 _ hg7 ho7)
              clear ho7 hg7 HP hown' hone honep N0 hb63 hby
              obtain ⟨a7, c7, rfl⟩ := (unhide N7).shape
              have f17 := (unhide HF1) _ (unhide N7).bel
              have HPS1 := hide hps1
              clear hps1
              go_wp2_with fail
              refine ((unhide HJ) _).mono ?_
              rintro e w2 ⟨rfl, hw2⟩
              rw [hw2, unhide HJT]
              clear hw2
              have hl1 : ps1.length ≤ 1 := by rw [unhide HPS1]; simp
              have hown' := hide (fun ob => World.ownsRow.alloc (unhide N7).row ob)
              have hone := hide (one_word w7 (arg))
              have honep := hide (one_plain (arg))
              have hbase : w.heap.size + 1 ≤ w7.heap.size := by have := Own.lt (unhide N7).iw; omega
              have HP := hide (fun (W : World) v' ob hg ho => (unhide N7).put (v' := v') (w3 := W) (ob := ob) (p := arg) hg ho)
              have hb63 : ps1.length + 1 ≤ maxLen := by unfold maxLen; omega
              have hby : (ps1.length + 1) * 8 ≤ 140737488355328 := by omega
              go_wp2_with (at_builtin; refine wpList_append_own _ rfl (.tmp 80) (.tmp 86) 38 rfl (w.heap.size + 1) 2 i0 (.int .i64 0) 1 8 Tryd.underlying38 hi0 hz0 hz1 hz2 rfl (by decide) _ ps1.length _ rfl ((unhide hown') _) ⟨w7.heap.size, 0, none⟩ 1 1 [.int .i64 (arg)] rfl rfl (unhide hone) (unhide honep) hb63 hby (by simp; omega) ?_)
              intro v8 w8 ho8 hg8 _
              obtain ⟨ps, hps⟩ : ∃ ps : List Int, ps = ps1 ++ [arg] := ⟨_, rfl⟩
              have N8 := hide (show Ic.Nx w w8 l.length ((k : Int) + 2) out v8 ps by rw [hps]; exact (unhide HP) w8 v8 _ hg8 ho8)
              clear ho8 hg8 HP hown' hone honep N7 hb63 hby hbase
              obtain ⟨av, cv, rfl⟩ := (unhide N8).shape
              have HEQ := hide (show PL = ps by rw [hps, unhide HPS1]; exact unhide HPL)
              have hpl2 : ps.length ≤ 2 := by rw [hps, List.length_append]; simp; omega
              clear hps HPS1
              have NN := N8
              clear N8
              have HBD : Hid (∀ j, j < ps.length → ∃ q : Nat, ps.getD j 0 = (q : Int) ∧ True) := fun j hj => by
                have hm : ps.getD j 0 ∈ PL := by rw [unhide HEQ, List.getD_eq_getElem?_getD, List.getElem?_eq_getElem hj]; exact List.getElem_mem hj
                have := (unhide HPB) _ hm
                exact ⟨(ps.getD j 0).toNat, by omega, trivial⟩
              have HPS := hide (show Ic.putAll l.length h (ps.drop 0) out = Ic.step l k out by rw [List.drop_zero, ← unhide HEQ]; exact (unhide HGO).symm)
              clear HEQ HPB HGO HPL
              go_wp2_with fail
              go_loopg [12] ps.length (fun gh s12 wq => ∃ (j : Nat) (o : List Int), Hid (gh = ps.length - j) ∧ s12 = .int .i64 (j : Int) ∧ j ≤ ps.length ∧ Hid (Ic.putAll l.length h (ps.drop j) o = Ic.step l k out) ∧ Hid (Ic.Nx w wq l.length ((k : Int) + 2) o (.slice av ps.length cv) ps))
              case atStart => exact ⟨0, out, rfl, rfl, by omega, unhide HPS, unhide NN⟩
              case round =>
                obtain ⟨j, o, hgj, rfl, hj, hpj, HN⟩ := hrel
                clear NN HPS
                by_cases hjlt : j < ps.length
                · have hjI : (j : Int) < (ps.length : Int) := by omega
                  have hj0 : (0 : Int) ≤ (j : Int) := by omega
                  obtain ⟨gn, rfl, hcv, fp⟩ := (unhide HN).at hjlt
                  obtain ⟨q, hq, hqb⟩ := (unhide HBD) j hjlt
                  rw [hq] at fp
                  have hdrop : ps.drop j = (q : Int) :: ps.drop (j + 1) := by
                    rw [List.drop_eq_getElem_cons hjlt, ← hq, List.getD_eq_getElem?_getD, List.getElem?_eq_getElem hjlt]; rfl
                  have HPJ := hide (show Ic.putAll l.length h ((q : Int) :: ps.drop (j + 1)) o = Ic.step l k out by rw [← hdrop]; exact hpj.out)
                  have hq0 : (0 : Int) ≤ (q : Int) := by omega
                  have hgg : ∀ x : Int, IntKind.i64.wrap x = IntKind.i64.wrap x := fun _ => rfl
                  clear hpj hdrop hq hgg
                  by_cases hqn : l.length ≤ q
                  · have hqI : (l.length : Int) ≤ (q : Int) := by omega
                    have fin := hide (show Ic.HtSaid w l (.returned (.tuple #[.slice (some ⟨w.heap.size, 0, none⟩) l.length l.length, .int .i64 (k : Int)])) wr from
                      ⟨_, rfl, (unhide HN).bel, .inr ⟨k, Ic.ht_bad (unhide HH) ((unhide HPJ).symm.trans (Ic.putAll_bad (Ic.put_bad (.inl hqI)))) (unhide HLT), rfl, unhide HLT⟩⟩)
                    clear hqn HN HPJ
                    go_wp2_with fail
                    go_ret2
                    exact unhide fin
                  · have hqI : ¬ (l.length : Int) ≤ (q : Int) := by omega
                    have hqI2 : (q : Int) < (l.length : Int) := by omega
                    have hfr := (unhide HN).fr
                    have fo := (unhide HN).iw.cell (j := q) (by rw [hfr.1]; omega)
                    have zo := Own.frozen (unhide HN).iw q
                    have hyb := hfr.2 q
                    have hqt : ((q : Int)).toNat = q := by omega
                    obtain ⟨y, hy⟩ : ∃ y, y = o.getD q (-1) := ⟨_, rfl⟩
                    rw [← hy] at fo hyb
                    have BAD := hide (fun hh : 0 ≤ y ∧ y ≠ h => show Ic.put l.length h o (q : Int) = none from Ic.put_bad (.inr (by rw [hqt, ← hy]; exact hh)))
                    have OKP := hide (fun hh : ¬ (0 ≤ y ∧ y ≠ h) => show Ic.put l.length h o (q : Int) = some (o.set q h) from (Ic.put_ok (by rw [hqt, ← hy]; rintro (h1 | h1); exact hqI h1; exact hh h1)).trans (by rw [hqt]))
                    have HG := hide hqI
                    clear hy hqt hfr hqI
                    have hqD : decide ((l.length : Int) ≤ (q : Int)) = false := decide_eq_false (unhide HG)
                    by_cases hy0 : 0 ≤ y
                    · by_cases hyh : y = h
                      · have g1 : (y != h) = false := by simp [hyh]
                        have N2 := hide ((unhide HN).lay q h (by omega) (by omega) (by omega))
                        have HP2 := hide ((Ic.putAll_go ((unhide OKP) (fun e => e.2 hyh))).symm.trans (unhide HPJ))
                        clear hyh HN BAD OKP HPJ
                        go_wp2_with fail
                        go_roundg (ps.length - (j + 1))
                        case rel => exact ⟨j + 1, _, rfl, by go_num, by omega, unhide HP2, unhide N2⟩
                        case measure => have := hgj.out; omega
                      · have g1 : (y != h) = true := by simpa using hyh
                        have fin := hide (show Ic.HtSaid w l (.returned (.tuple #[.slice (some ⟨w.heap.size, 0, none⟩) l.length l.length, .int .i64 (k : Int)])) wr from
                          ⟨_, rfl, (unhide HN).bel, .inr ⟨k, Ic.ht_bad (unhide HH) ((unhide HPJ).symm.trans (Ic.putAll_bad ((unhide BAD) ⟨hy0, hyh⟩))) (unhide HLT), rfl, unhide HLT⟩⟩)
                        clear hyh HN BAD OKP HPJ
                        go_wp2_with fail
                        go_ret2
                        exact unhide fin
                    · have hyD : decide (0 ≤ y) = false := decide_eq_false hy0
                      have N2 := hide ((unhide HN).lay q h (by omega) (by omega) (by omega))
                      have HP2 := hide ((Ic.putAll_go ((unhide OKP) (fun e => hy0 e.1))).symm.trans (unhide HPJ))
                      clear hy0 HN BAD OKP HPJ
                      go_wp2_with fail
                      go_roundg (ps.length - (j + 1))
                      case rel => exact ⟨j + 1, _, rfl, by go_num, by omega, unhide HP2, unhide N2⟩
                      case measure => have := hgj.out; omega
                · have hjI : ¬ (j : Int) < (ps.length : Int) := by omega
                  have hnext := hide (show Ic.Hs w wr l (k + 1) o from by
                    have e : ps.drop j = [] := List.drop_eq_nil_of_le (by omega)
                    have e2 := hpj.out
                    rw [e] at e2
                    exact ⟨(unhide HN).iw, (unhide HN).bel, Ic.ht_next (unhide HH) e2.symm, (unhide HN).fr.mono (by omega)⟩)
                  clear hjlt HN hpj
                  go_wp2_with fail
                  go_roundg (l.length - (k + 1))
                  case rel => exact ⟨k + 1, o, rfl, by go_num, by have := unhide HLT; omega, unhide hnext⟩
                  case measure => have := hg.out; have := unhide HLT; omega
          | false =>
            have HJT := hide hj
            have h10 : op ≠ 10 := fun e => by rw [e] at hj; cases hj
            have HPL := hide ((unhide PN) (unhide HBK) hj)
            have g10 : (op != 10) = true := by simpa using h10
            clear h10 hj PJ P2 PN HJB
            go_wp2_with fail
            refine ((unhide HM) _).mono ?_
            rintro e w2 ⟨rfl, hw2⟩
            rw [hw2]
            clear hw2
            have hown' := hide (fun ob => World.ownsRow.alloc (unhide N0).row ob)
            have hone : Hid (∀ (j : Nat) (u : Value), ([Value.int .i64 ((k : Int) + 1)] : List Value)[j]? = some u → ((wr.alloc (.cells #[] 2)).alloc (.cells #[.int .i64 ((k : Int) + 1)] 2)).cell? ((⟨wr.heap.size + 1, 0, none⟩ : Addr).add j) = some u) := by
              have h9 := one_word (wr.alloc (.cells #[] 2)) ((k : Int) + 1)
              rw [World.size_alloc] at h9
              exact h9
            have honep := hide (one_plain ((k : Int) + 1))
            have HP := hide (fun (W : World) v' ob hg ho => (unhide N0).put (v' := v') (w3 := W) (ob := ob) (p := (k : Int) + 1) hg ho)
            have hb63 : 0 + 1 ≤ maxLen := by unfold maxLen; omega
            have hby : (0 + 1) * 8 ≤ 140737488355328 := by omega
            go_wp2_with (at_builtin; refine wpList_append_own _ rfl (.tmp 73) (.tmp 76) 38 rfl (w.heap.size + 1) 2 i0 (.int .i64 0) 1 8 Tryd.underlying38 hi0 hz0 hz1 hz2 rfl (by decide) _ 0 _ rfl ((unhide hown') _) ⟨wr.heap.size + 1, 0, none⟩ 1 1 [.int .i64 ((k : Int) + 1)] rfl rfl (unhide hone) (unhide honep) hb63 hby (by simp; omega) ?_)
            intro v7 w7 ho7 hg7 _
            obtain ⟨ps1, hps1⟩ : ∃ ps1 : List Int, ps1 = [(k : Int) + 1] := ⟨_, rfl⟩
            have N7 := hide (show Ic.Nx w w7 l.length ((k : Int) + 2) out v7 ps1 by rw [hps1]; exact (unhide HP) w7 v7 _ hg7 ho7)
            clear ho7 hg7 HP hown' hone honep N0 hb63 hby
            obtain ⟨a7, c7, rfl⟩ := (unhide N7).shape
            have f17 := (unhide HF1) _ (unhide N7).bel
            have HPS1 := hide hps1
            clear hps1
            go_wp2_with fail
            refine ((unhide HJ) _).mono ?_
            rintro e w2 ⟨rfl, hw2⟩
            rw [hw2, unhide HJT]
            clear hw2
            go_wp2_with fail
            have HEQ := hide (show PL = ps1 by rw [unhide HPS1]; exact unhide HPL)
            have hpl2 : ps1.length ≤ 2 := by rw [unhide HPS1]; simp
            clear HPS1
            have NN := N7
            clear N7
            generalize hE1 : a7 = av at *
            generalize hE2 : c7 = cv at *
            generalize hE3 : ps1 = ps at *
            clear hE1 hE2 hE3
            have HBD : Hid (∀ j, j < ps.length → ∃ q : Nat, ps.getD j 0 = (q : Int) ∧ True) := fun j hj => by
              have hm : ps.getD j 0 ∈ PL := by rw [unhide HEQ, List.getD_eq_getElem?_getD, List.getElem?_eq_getElem hj]; exact List.getElem_mem hj
              have := (unhide HPB) _ hm
              exact ⟨(ps.getD j 0).toNat, by omega, trivial⟩
            have HPS := hide (show Ic.putAll l.length h (ps.drop 0) out = Ic.step l k out by rw [List.drop_zero, ← unhide HEQ]; exact (unhide HGO).symm)
            clear HEQ HPB HGO HPL
            go_loopg [12] ps.length (fun gh s12 wq => ∃ (j : Nat) (o : List Int), Hid (gh = ps.length - j) ∧ s12 = .int .i64 (j : Int) ∧ j ≤ ps.length ∧ Hid (Ic.putAll l.length h (ps.drop j) o = Ic.step l k out) ∧ Hid (Ic.Nx w wq l.length ((k : Int) + 2) o (.slice av ps.length cv) ps))
            case atStart => exact ⟨0, out, rfl, rfl, by omega, unhide HPS, unhide NN⟩
            case round =>
              obtain ⟨j, o, hgj, rfl, hj, hpj, HN⟩ := hrel
              clear NN HPS
              by_cases hjlt : j < ps.length
              · have hjI : (j : Int) < (ps.length : Int) := by omega
                have hj0 : (0 : Int) ≤ (j : Int) := by omega
                obtain ⟨gn, rfl, hcv, fp⟩ := (unhide HN).at hjlt
                obtain ⟨q, hq, hqb⟩ := (unhide HBD) j hjlt
                rw [hq] at fp
                have hdrop : ps.drop j = (q : Int) :: ps.drop (j + 1) := by
                  rw [List.drop_eq_getElem_cons hjlt, ← hq, List.getD_eq_getElem?_getD, List.getElem?_eq_getElem hjlt]; rfl
                have HPJ := hide (show Ic.putAll l.length h ((q : Int) :: ps.drop (j + 1)) o = Ic.step l k out by rw [← hdrop]; exact hpj.out)
                have hq0 : (0 : Int) ≤ (q : Int) := by omega
                have hgg : ∀ x : Int, IntKind.i64.wrap x = IntKind.i64.wrap x := fun _ => rfl
                clear hpj hdrop hq hgg
                by_cases hqn : l.length ≤ q
                · have hqI : (l.length : Int) ≤ (q : Int) := by omega
                  have fin := hide (show Ic.HtSaid w l (.returned (.tuple #[.slice (some ⟨w.heap.size, 0, none⟩) l.length l.length, .int .i64 (k : Int)])) wr from
                    ⟨_, rfl, (unhide HN).bel, .inr ⟨k, Ic.ht_bad (unhide HH) ((unhide HPJ).symm.trans (Ic.putAll_bad (Ic.put_bad (.inl hqI)))) (unhide HLT), rfl, unhide HLT⟩⟩)
                  clear hqn HN HPJ
                  go_wp2_with fail
                  go_ret2
                  exact unhide fin
                · have hqI : ¬ (l.length : Int) ≤ (q : Int) := by omega
                  have hqI2 : (q : Int) < (l.length : Int) := by omega
                  have hfr := (unhide HN).fr
                  have fo := (unhide HN).iw.cell (j := q) (by rw [hfr.1]; omega)
                  have zo := Own.frozen (unhide HN).iw q
                  have hyb := hfr.2 q
                  have hqt : ((q : Int)).toNat = q := by omega
                  obtain ⟨y, hy⟩ : ∃ y, y = o.getD q (-1) := ⟨_, rfl⟩
                  rw [← hy] at fo hyb
                  have BAD := hide (fun hh : 0 ≤ y ∧ y ≠ h => show Ic.put l.length h o (q : Int) = none from Ic.put_bad (.inr (by rw [hqt, ← hy]; exact hh)))
                  have OKP := hide (fun hh : ¬ (0 ≤ y ∧ y ≠ h) => show Ic.put l.length h o (q : Int) = some (o.set q h) from (Ic.put_ok (by rw [hqt, ← hy]; rintro (h1 | h1); exact hqI h1; exact hh h1)).trans (by rw [hqt]))
                  have HG := hide hqI
                  clear hy hqt hfr hqI
                  have hqD : decide ((l.length : Int) ≤ (q : Int)) = false := decide_eq_false (unhide HG)
                  by_cases hy0 : 0 ≤ y
                  · by_cases hyh : y = h
                    · have g1 : (y != h) = false := by simp [hyh]
                      have N2 := hide ((unhide HN).lay q h (by omega) (by omega) (by omega))
                      have HP2 := hide ((Ic.putAll_go ((unhide OKP) (fun e => e.2 hyh))).symm.trans (unhide HPJ))
                      clear hyh HN BAD OKP HPJ
                      go_wp2_with fail
                      go_roundg (ps.length - (j + 1))
                      case rel => exact ⟨j + 1, _, rfl, by go_num, by omega, unhide HP2, unhide N2⟩
                      case measure => have := hgj.out; omega
                    · have g1 : (y != h) = true := by simpa using hyh
                      have fin := hide (show Ic.HtSaid w l (.returned (.tuple #[.slice (some ⟨w.heap.size, 0, none⟩) l.length l.length, .int .i64 (k : Int)])) wr from
                        ⟨_, rfl, (unhide HN).bel, .inr ⟨k, Ic.ht_bad (unhide HH) ((unhide HPJ).symm.trans (Ic.putAll_bad ((unhide BAD) ⟨hy0, hyh⟩))) (unhide HLT), rfl, unhide HLT⟩⟩)
                      clear hyh HN BAD OKP HPJ
                      go_wp2_with fail
                      go_ret2
                      exact unhide fin
                  · have hyD : decide (0 ≤ y) = false := decide_eq_false hy0
                    have N2 := hide ((unhide HN).lay q h (by omega) (by omega) (by omega))
                    have HP2 := hide ((Ic.putAll_go ((unhide OKP) (fun e => hy0 e.1))).symm.trans (unhide HPJ))
                    clear hy0 HN BAD OKP HPJ
                    go_wp2_with fail
                    go_roundg (ps.length - (j + 1))
                    case rel => exact ⟨j + 1, _, rfl, by go_num, by omega, unhide HP2, unhide N2⟩
                    case measure => have := hgj.out; omega
              · have hjI : ¬ (j : Int) < (ps.length : Int) := by omega
                have hnext := hide (show Ic.Hs w wr l (k + 1) o from by
                  have e : ps.drop j = [] := List.drop_eq_nil_of_le (by omega)
                  have e2 := hpj.out
                  rw [e] at e2
                  exact ⟨(unhide HN).iw, (unhide HN).bel, Ic.ht_next (unhide HH) e2.symm, (unhide HN).fr.mono (by omega)⟩)
                clear hjlt HN hpj
                go_wp2_with fail
                go_roundg (l.length - (k + 1))
                case rel => exact ⟨k + 1, o, rfl, by go_num, by have := unhide HLT; omega, unhide hnext⟩
                case measure => have := hg.out; have := unhide HLT; omega
        · have hltI : ¬ (k : Int) < (l.length : Int) := by omega
          have hke : k = l.length := by omega
          subst hke
          have fin := hide (show Ic.HtSaid w l (.returned (.tuple #[.slice (some ⟨w.heap.size, 0, none⟩) l.length l.length, .int .i64 (-1)])) wr from
            ⟨_, rfl, (unhide HS).bel, .inl ⟨out, (unhide HS).ht, rfl, (unhide HS).iw, (unhide HS).fr.1⟩⟩)
          clear HS
          go_wp2_with fail
          go_ret2
          exact unhide fin

end Go.Proofs.YtgjbibkppofjfaaDoor
