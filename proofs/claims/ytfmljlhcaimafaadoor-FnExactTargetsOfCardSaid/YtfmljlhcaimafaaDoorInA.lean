/-
  impl.heightsAhead: the heights up to the first instruction at which they cannot be told.
-/
import Derived.Test.YtfmljlhcaimafaaDoorInB
namespace Go.Proofs.YtfmljlhcaimafaaDoor
open Go.RowKit
set_option linter.unusedVariables false
set_option linter.unusedSimpArgs false


open Go.Maps Go.ChangeMaps
namespace Ic
theorem start_get (n j : Nat) (h1 : 1 ≤ n) : (start n).getD j (-1) = if j = 0 then 1 else -1 := by
  unfold start
  rw [List.getD_eq_getElem?_getD, List.getElem?_set]
  by_cases e : j = 0
  · rw [if_pos e.symm, if_pos e, if_pos (by simp; omega)]; rfl
  · rw [if_neg (fun q => e q.symm), if_neg e, List.getElem?_replicate]
    split <;> rfl
/-- The map as it is made. -/
theorem mp_start (n : Nat) (h1 : 1 ≤ n) (w : World) : ∃ w', (Instr.mapUpdate 74 (.map (some w.heap.size)) (.int .i64 0) (.int .i64 1)).run Tryd.prog (w.alloc (.map #[] 0)) = .ok () w' ∧ Mp w' w.heap.size 0 1 (start n) ∧ Below w.heap.size w w' := by
  have h0 := World.ownsMap_made w Tryd.prog 2 (plainElem (H := Unit) Tryd.prog 2)
  obtain ⟨w', hrun, ho, ht⟩ := h0.update mapK Tryd.underlying74 (by unfold maxLen; omega) (keyOf_int_mk (a := 0) Tryd.underlying2 (by decide)) (plainElem_int Tryd.underlying2 (a := 1) (by decide))
  have hkey : WideAt.IsKeyLit (.int .i64 0) := by first | trivial | exact rfl | simp [WideAt.IsKeyLit]
  have h00 : Lit.int .i64 0 = Lit.int .i64 ((0 : Nat) : Int) := rfl
  refine ⟨w', hrun, ⟨_, ho, isMap_empty.put _ _, fun j => ?_, fun j hj hz z => ?_⟩, ((Below.refl _ _).alloc (Nat.le_refl _) _).grown ht (by simp) (fun q hq => by simp only [Option.some.injEq] at hq; omega)⟩
  · rw [start_get n j h1]
    by_cases e : j = 0
    · subst e
      rw [if_pos rfl]
      exact (has_put_same isMap_empty hkey _).trans (by decide)
    · rw [if_neg e, h00, has_put_other (key_ne e)]
      exact (decide_eq_false (by omega)).symm
  · rw [start_get n j h1] at hz ⊢
    by_cases e : j = 0
    · subst e
      rw [if_pos rfl]
      exact atKey_put_same isMap_empty hkey _ _
    · rw [if_neg e] at hz; omega
/-- What heightsAhead answers. -/
def HaSaid (w : World) (l : List Ic) (e : Ending) (w' : World) : Prop := ∃ (v : Value) (hv : List Int), e = .returned v ∧ w'.ownsRow (w.heap.size + 1) 2 1 v hv.length (hv.map (Value.int .i64)) ∧ Below w.heap.size w w' ∧ (htF l l.length = .inl hv ∧ hv.length = l.length ∨ htF l l.length = .inr hv.length ∧ hv.length < l.length)
/-- What the loop holds. -/
structure Ha (w wr : World) (l : List Ic) (k : Nat) (out : List Int) (v : Value) (hv : List Int) : Prop where
  mp : Mp wr w.heap.size k (1 + 2 * k) out
  ht : htF l k = .inl out
  fr : Fr l.length ((k : Int) + 1) out
  bel : Below w.heap.size w wr
  row : wr.ownsRow (w.heap.size + 1) 2 1 v hv.length (hv.map (Value.int .i64))
  len : hv.length = k
  same : ∀ j, j < k → hv.getD j (-1) = out.getD j (-1)
theorem Ha.shape {w wr : World} {l : List Ic} {k : Nat} {out hv : List Int} {v : Value} (h : Ha w wr l k out v hv) : ∃ (a : Option Addr) (c : Nat), v = .slice a hv.length c := by
  obtain ⟨h0, h1 | ⟨g, c, cur, h2, hg, hh, rest⟩⟩ := h.row
  · exact ⟨none, 0, by rw [h1.1, h1.2]⟩
  · exact ⟨_, _, h2⟩
/-- What lies there when a row of numbers has grown. -/
structure Gr (w wr : World) (l : List Ic) (k : Nat) (out : List Int) (v : Value) (hv : List Int) : Prop where
  mp : Mp wr w.heap.size (k + 1) (1 + 2 * (k + 1)) out
  ht : htF l (k + 1) = .inl out
  fr : Fr l.length ((k : Int) + 2) out
  bel : Below w.heap.size w wr
  row : wr.ownsRow (w.heap.size + 1) 2 1 v hv.length (hv.map (Value.int .i64))
  len : hv.length = k
  same : ∀ j, j < k → hv.getD j (-1) = out.getD j (-1)
theorem Gr.put {w wr w3 : World} {l : List Ic} {k : Nat} {out hv : List Int} {v v' : Value} {ob : Obj} {p : Int} (h : Gr w wr l k out v hv) (hp : p = out.getD k (-1)) (hg : (wr.alloc ob).grownBy w3 v.ownBlock) (ho : w3.ownsRow (w.heap.size + 1) 2 1 v' (hv.length + 1) (hv.map (Value.int .i64) ++ [.int .i64 p])) : Ha w w3 l (k + 1) out v' (hv ++ [p]) := by
  have hlt := h.mp.lt
  have hbase : ∀ k, v.ownBlock = some k → w.heap.size + 1 ≤ k := by
    obtain ⟨_, ⟨h1, _⟩ | ⟨g, c, cur, h2, hg, _⟩⟩ := h.row
    · intro k hk; rw [h1] at hk; simp [Value.ownBlock] at hk
    · intro k hk; rw [h2] at hk; simp only [Value.ownBlock, Option.some.injEq] at hk; omega
  have kp : ∀ k, k ≤ w.heap.size → w3.heap[k]? = wr.heap[k]? := fun k hk => by
    rw [hg.block k (by simp; omega) (fun e => by have := hbase k e.symm; omega)]
    exact Below.heap_alloc _ _ _ (by omega)
  refine ⟨h.mp.keep (kp _ (Nat.le_refl _)), h.ht, h.fr.mono (by omega), ⟨hg.os.trans h.bel.os, hg.tape.trans h.bel.tape, hg.output.trans h.bel.output, by have h1 := hg.size; rw [World.size_alloc] at h1; have := h.bel.size; omega, fun k hk => (kp k (by omega)).trans (h.bel.block k hk)⟩, ?_, by simp [h.len], fun j hj => ?_⟩
  · rw [List.map_append, List.length_append]
    exact ho
  · by_cases e : j = k
    · subst e
      rw [hp, List.getD_eq_getElem?_getD, List.getElem?_append_right (by rw [h.len]; exact Nat.le_refl _), h.len, Nat.sub_self]
      rfl
    · rw [List.getD_eq_getElem?_getD, List.getElem?_append_left (by rw [h.len]; omega), ← List.getD_eq_getElem?_getD]
      exact h.same j (by omega)
theorem putAll_fr {n : Nat} {h B : Int} (h0 : -1 ≤ h) (h1 : h ≤ B) (hB : -1 ≤ B) : ∀ (ps out o : List Int), Fr n B out → putAll n h ps out = some o → Fr n B o := by
  intro ps
  induction ps with
  | nil => intro out o hf e; rw [putAll] at e; injection e with e; subst e; exact hf
  | cons p r ih =>
    intro out o hf e
    rw [putAll] at e
    cases hq : put n h out p with
    | none => rw [hq] at e; cases e
    | some o1 =>
      rw [hq] at e
      have he : o1 = out.set p.toNat h := by
        unfold put at hq
        split at hq
        · cases hq
        · injection hq with hq; exact hq.symm
      subst he
      exact ih _ _ (hf.set _ _ h0 h1 hB) e
/-- Where nothing is laid. -/
theorem Ha.skip {w wr : World} {l : List Ic} {k : Nat} {out hv : List Int} {v : Value} (h : Ha w wr l k out v hv) (hx : out.getD k (-1) < 0) : Gr w wr l k out v hv :=
  ⟨(h.mp.skip hx).more (by omega), ht_next h.ht (step_none hx), h.fr.mono (by omega), h.bel, h.row, h.len, h.same⟩
/-- Behind an instruction whose heights could be laid. -/
theorem Ha.step {w wr w2 w3 : World} {l : List Ic} {k : Nat} {out o hv : List Int} {v : Value} {rg : Int} (h : Ha w wr l k out v hv) (hone : oneF (l.getD k zero) k l.length rg = 0) (h0 : 0 ≤ out.getD k (-1)) (hs : step l k out = some o) (hk2 : Km wr.heap.size w.heap.size wr w2) (hk3 : Km w2.heap.size w.heap.size w2 w3) (hm : Mp w3 w.heap.size (k + 1) (1 + 2 * k + 2) o) : Gr w w3 l k o v hv ∧ o.getD k (-1) = out.getD k (-1) := by
  have hkk : Km wr.heap.size w.heap.size wr w3 := hk2.trans (hk3.mono hk2.size)
  have hgo : putAll l.length (out.getD k (-1) - takes (l.getD k zero).op + lays (l.getD k zero).op) (places (l.getD k zero) k) out = some o := by
    by_cases hf : out.getD k (-1) < takes (l.getD k zero).op
    · rw [step_few (by omega) hf] at hs; cases hs
    · rw [step_go (by omega) hf] at hs; exact hs
  have hkeep := putAll_keep (k := k) _ _ _ (fun p hp => by have := places_bd hone p hp; omega) hgo
  have hfr : Fr l.length ((k : Int) + 2) o := by
    have hb1 := h.fr.2 k
    have hlt := lays_takes (l.getD k zero).op
    have hf : ¬ out.getD k (-1) < takes (l.getD k zero).op := fun hf => by rw [step_few (by omega) hf] at hs; cases hs
    have hly := lays_bd (l.getD k zero).op
    exact putAll_fr (by omega) (by omega) (by omega) _ _ _ (h.fr.mono (by omega)) hgo
  refine ⟨⟨hm.more (by omega), ht_next h.ht hs, hfr, h.bel.trans (hkk.below h.bel.size (Nat.le_refl _)), ?_, h.len, fun j hj => (h.same j hj).trans (hkeep.2 j (by omega)).symm⟩, hkeep.2 k (Nat.le_refl _)⟩
  obtain ⟨r0, r1 | ⟨g, c, cur, r2, hg, hh, rest⟩⟩ := h.row
  · exact ⟨r0, .inl r1⟩
  · exact ⟨r0, .inr ⟨g, c, cur, r2, hg, (hkk.block g (Array.getElem?_eq_some_iff.1 hh).1 (by omega)).trans hh, rest⟩⟩
end Ic

set_option maxRecDepth 100000 in
set_option maxHeartbeats 8000000 in
theorem heightsAhead_any (b : Nat) (l : List Ic) (rg : Int) (w : World) (hrow : Ic.Row w b l) (hb : b < w.heap.size) (h1 : 1 ≤ l.length) (hn : l.length ≤ 6000) (hall : ∀ j, j < l.length → Ic.oneF (l.getD j Ic.zero) j l.length rg = 0) (hS : Shp w) :
    Calls Tryd.prog 32 #[.slice (some ⟨b, 0, none⟩) l.length l.length] w (Ic.HaSaid w l) := by
  obtain ⟨i0, hi0, hz0, hz1, hz2⟩ := info_parts Tryd.info2
  obtain ⟨w1, hr1, hm1, hb1⟩ := Ic.mp_start l.length h1 w
  have HR := hide hrow
  have HA := hide hall
  have HS := hide hS
  have H0 := hide (show Ic.Ha w w1 l 0 (Ic.start l.length) (.slice none 0 0) [] from ⟨hm1, rfl, Ic.start_fr _, hb1, World.ownsRow_nil _ _ _ _, rfl, fun j hj => absurd hj (by omega)⟩)
  clear hrow hall hS hm1 hb1
  have hmm := @run_makeMap Tryd.prog
  go_enter Tryd.func32, Tryd.ntmps32
  go_wp2_with fail
  clear hr1 hmm
  go_loopg [3, 12] l.length (fun gh s3 s12 wr => ∃ (k : Nat) (out hv : List Int), Hid (gh = l.length - k) ∧ s12 = .int .i64 (k : Int) ∧ k ≤ l.length ∧ Hid (Ic.Ha w wr l k out s3 hv))
  case atStart => exact ⟨0, _, [], rfl, rfl, by omega, unhide H0⟩
  case round =>
    obtain ⟨k, out, hv, hg, rfl, hk, HL⟩ := hrel
    clear H0
    obtain ⟨av, cv, rfl⟩ := (unhide HL).shape
    have hvl : hv.length ≤ 6000 := by have := (unhide HL).len; omega
    by_cases hlt : k < l.length
    · have hltI : (k : Int) < (l.length : Int) := by omega
      obtain ⟨cc, hlk, hcc⟩ := (unhide HL).mp.look k (by omega)
      have hxb := (unhide HL).fr.2 k
      by_cases hx : 0 ≤ out.getD k (-1)
      · have hc := hcc (Nat.le_refl _) hx
        rw [decide_eq_true ⟨Nat.le_refl _, hx⟩, hc] at hlk
        obtain ⟨w2, hdel, hm2, hk2⟩ := (unhide HL).mp.del (by omega) 0
        have bel2 : Below w.heap.size w w2 := (unhide HL).bel.trans (hk2.below (unhide HL).bel.size (Nat.le_refl _))
        have HB := hide (layBehind_any w.heap.size b l k (1 + 2 * k) rg out w2 ((unhide HR).below bel2 hb) (Nat.lt_of_lt_of_le hb bel2.size) hlt hn ((unhide HA) k hlt) ((unhide HS).below bel2) hm2 (unhide HL).fr hx (by omega))
        have HST := hide (fun w3 o hs hk3 hm => (unhide HL).step (w2 := w2) (w3 := w3) (o := o) ((unhide HA) k hlt) hx hs hk2 hk3 hm)
        have HLX := hide hx
        obtain ⟨x, hxe⟩ : ∃ x, x = out.getD k (-1) := ⟨_, rfl⟩
        rw [← hxe] at hlk HB
        have HXE := hide hxe
        have HBL := hide (fun w3 (hk3 : Km w2.heap.size w.heap.size w2 w3) => bel2.trans (hk3.below bel2.size (Nat.le_refl _)))
        have HRK := hide (fun w3 (hk3 : Km w2.heap.size w.heap.size w2 w3) => show w3.ownsRow (w.heap.size + 1) 2 1 (.slice av hv.length cv) hv.length (hv.map (Value.int .i64)) from by
          have hkk : Km wr.heap.size w.heap.size wr w3 := hk2.trans (hk3.mono hk2.size)
          obtain ⟨r0, r1 | ⟨g, c, cur, r2, hg, hh, rest⟩⟩ := (unhide HL).row
          · exact ⟨r0, .inl r1⟩
          · exact ⟨r0, .inr ⟨g, c, cur, r2, hg, (hkk.block g (Array.getElem?_eq_some_iff.1 hh).1 (by omega)).trans hh, rest⟩⟩)
        have HLE := hide (unhide HL).len
        have HHT := hide (fun hs => Ic.ht_bad (unhide HL).ht hs hlt)
        clear hc hcc hxe hx hxb hm2 hk2 bel2 HL
        go_wp2_with fail
        refine (unhide HB).mono ?_
        rintro e w3 ⟨r, rfl, hk3, hyes, hno⟩
        cases r with
        | false =>
          have fin := hide (show Ic.HaSaid w l (.returned (.slice av hv.length cv)) w3 from ⟨_, hv, rfl, (unhide HRK) w3 hk3, (unhide HBL) w3 hk3, .inr ⟨by rw [unhide HLE]; exact (unhide HHT) (hno rfl), by have := unhide HLE; omega⟩⟩)
          clear hk3 hyes hno HB
          go_wp2_with fail
          go_ret
          exact unhide fin
        | true =>
          obtain ⟨o, hs, hm3⟩ := hyes rfl
          obtain ⟨G3', hke⟩ := (unhide HST) w3 o hs hk3 hm3
          have G3 := hide G3'
          have HKE := hide (show x = o.getD k (-1) by rw [hke]; exact unhide HXE)
          clear hk3 hyes hno HB hs hm3 G3' hke HST HRK HHT
          have hown' := hide (fun ob => World.ownsRow.alloc (unhide G3).row ob)
          have hone9 := hide (one_word w3 (x))
          have honep := hide (one_plain (x))
          have hbase : w.heap.size + 1 ≤ w3.heap.size := by have := (unhide G3).mp.lt; omega
          have HP := hide (fun (W : World) v' ob hg ho => (unhide G3).put (v' := v') (w3 := W) (ob := ob) (p := x) (unhide HKE) hg ho)
          have hb63 : hv.length + 1 ≤ maxLen := by unfold maxLen; omega
          have hby : (hv.length + 1) * 8 ≤ 140737488355328 := by omega
          clear G3
          go_wp2_with (at_builtin; refine wpList_append_own _ rfl (.tmp 34) (.tmp 36) 34 rfl (w.heap.size + 1) 2 i0 (.int .i64 0) 1 8 Tryd.underlying34 hi0 hz0 hz1 hz2 rfl (by decide) _ hv.length _ rfl ((unhide hown') _) ⟨w3.heap.size, 0, none⟩ 1 1 [.int .i64 (x)] rfl rfl (unhide hone9) (unhide honep) hb63 hby (by simp; omega) ?_)
          intro v7 w7 ho7 hg7 _
          have H7 := hide ((unhide HP) w7 v7 _ hg7 ho7)
          clear ho7 hg7 HP hown' hone9 honep
          go_wp2_with fail
          go_roundg (l.length - (k + 1))
          case rel => exact ⟨k + 1, _, _, rfl, by go_num, by omega, unhide H7⟩
          case measure => have := hg.out; omega
      · have hxm : out.getD k (-1) = -1 := by omega
        rw [decide_eq_false (show ¬ (k ≤ k ∧ 0 ≤ out.getD k (-1)) by omega)] at hlk
        have G3 := hide ((unhide HL).skip (by omega))
        have HXM := hide hxm.symm
        clear hxm hx hxb hcc HL
        have hown' := hide (fun ob => World.ownsRow.alloc (unhide G3).row ob)
        have hone9 := hide (one_word wr (-1))
        have honep := hide (one_plain (-1))
        have hbase : w.heap.size + 1 ≤ wr.heap.size := by have := (unhide G3).mp.lt; omega
        have HP := hide (fun (W : World) v' ob hg ho => (unhide G3).put (v' := v') (w3 := W) (ob := ob) (p := -1) (unhide HXM) hg ho)
        have hb63 : hv.length + 1 ≤ maxLen := by unfold maxLen; omega
        have hby : (hv.length + 1) * 8 ≤ 140737488355328 := by omega
        clear G3
        go_wp2_with (at_builtin; refine wpList_append_own _ rfl (.tmp 23) (.tmp 24) 34 rfl (w.heap.size + 1) 2 i0 (.int .i64 0) 1 8 Tryd.underlying34 hi0 hz0 hz1 hz2 rfl (by decide) _ hv.length _ rfl ((unhide hown') _) ⟨wr.heap.size, 0, none⟩ 1 1 [.int .i64 (-1)] rfl rfl (unhide hone9) (unhide honep) hb63 hby (by simp; omega) ?_)
        intro v7 w7 ho7 hg7 _
        have H7 := hide ((unhide HP) w7 v7 _ hg7 ho7)
        clear ho7 hg7 HP hown' hone9 honep
        go_wp2_with fail
        go_roundg (l.length - (k + 1))
        case rel => exact ⟨k + 1, _, _, rfl, by go_num, by omega, unhide H7⟩
        case measure => have := hg.out; omega
    · have hltI : ¬ (k : Int) < (l.length : Int) := by omega
      have hke : k = l.length := by omega
      have fin := hide (show Ic.HaSaid w l (.returned (.slice av hv.length cv)) wr from by
        have hl := (unhide HL).len
        have he : hv = out := by
          refine List.ext_getElem (by rw [hl, (unhide HL).fr.1]; exact hke) fun j h1 h2 => ?_
          have := (unhide HL).same j (by omega)
          rw [List.getD_eq_getElem?_getD, List.getElem?_eq_getElem h1, List.getD_eq_getElem?_getD, List.getElem?_eq_getElem h2] at this
          simpa using this
        refine ⟨_, hv, rfl, (unhide HL).row, (unhide HL).bel, .inl ⟨?_, by omega⟩⟩
        have := (unhide HL).ht
        rw [hke] at this
        rw [he]; exact this)
      clear HL hke
      go_wp2_with fail
      go_ret
      exact unhide fin

end Go.Proofs.YtfmljlhcaimafaaDoor
