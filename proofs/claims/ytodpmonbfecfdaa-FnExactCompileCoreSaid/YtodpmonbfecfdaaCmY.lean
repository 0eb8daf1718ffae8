/-
  spec.CompileCore.
-/
import Derived.Test.YtodpmonbfecfdaaCmX
import Derived.Test.YtodpmonbfecfdaaCorG
import Derived.Laws.MakeOwn
namespace Go.Proofs.Ytodpmonbfecfdaa
open Go.RowKit
set_option linter.unusedVariables false
set_option linter.unusedSimpArgs false


namespace Cm
/-- What CompileCore leaves, on either side. -/
def Told (l : List Co) (w : World) (e : Ending) (w' : World) : Prop := ∃ v cs, e = .returned (.agg #[.int .i64 (compileOut l).1, .int .i64 0, v, .int .i64 (compileOut l).2.2]) ∧ cs.map Prod.fst = (compileOut l).2.1 ∧ Rw w' w.heap.size v cs ∧ (bls cs).Nodup ∧ Below w.heap.size w w'
theorem out_bad {l : List Co} (h : Co.fault l ≠ 0) : compileOut l = (Co.fault l, [], 0) := by unfold compileOut; rw [if_pos h]
theorem out_many {l : List Co} (h : ¬ Co.fault l ≠ 0) (h2 : 6000 < (made l).len ∨ 1000 < (made l).regs) : compileOut l = (2, [], 0) := by unfold compileOut; rw [if_neg h, if_pos h2]
theorem out_ok {l : List Co} (h : ¬ Co.fault l ≠ 0) (h2 : ¬ (6000 < (made l).len ∨ 1000 < (made l).regs)) : compileOut l = (0, (made l).ins, (made l).regs) := by unfold compileOut; rw [if_neg h, if_neg h2]
theorem sz_all {l : List Co} (G : Good l) : sz l l.length ((l.length : Int) - 1) = l.length := by
  have hz := sz_ord G.fine l.length (l.length - 1) (by have := G.pos; omega)
  have ho := G.ord
  unfold Tr.ord at ho
  have hp := G.pos
  rw [show l.length - 1 + 1 = l.length by omega] at ho
  rw [ho, Tr.up_length, show ((l.length - 1 : Nat) : Int) = (l.length : Int) - 1 by omega] at hz
  exact hz
theorem Rw.mono {w : World} {base base' : Nat} {v : Value} {cs : List (Ic × Value)} (h : Rw w base v cs) (hb : base' ≤ base) : Rw w base' v cs := by
  refine ⟨?_, fun p hp => (h.2 p hp).mono hb⟩
  obtain ⟨⟨h1, h2 | ⟨g, cap, cur, h4, hg, h5⟩⟩, _⟩ := h
  · exact ⟨h1, .inl h2⟩
  · exact ⟨h1, .inr ⟨g, cap, cur, h4, by omega, h5⟩⟩
theorem Rw.set {w : World} {base d j : Nat} {v x : Value} {cs : List (Ic × Value)} {t : TypeId} {ys : List Value} (h : Rw w base v cs) (hd : Own w d t ys) (h1 : t ≠ 56) (h2 : t ≠ 84) : Rw (w.setCell ⟨d, j, none⟩ x) base v cs := by
  have hnp := h.ne hd h1
  refine ⟨?_, fun p hp => (h.2 p hp).setOther _ _ (fun b hb e => res_ne (h.2 p hp) hd h2 (by rw [hb]; exact congrArg some e))⟩
  obtain ⟨⟨q1, ⟨q2, q3⟩ | ⟨g, cap, cur, q4, hg', hh, q5⟩⟩, _⟩ := h
  · exact ⟨q1, .inl ⟨q2, q3⟩⟩
  · exact ⟨q1, .inr ⟨g, cap, cur, q4, hg', (heap_setCell_other _ ⟨d, j, none⟩ g _ (fun e => hnp (by rw [q4]; exact congrArg some e))).trans hh, q5⟩⟩
theorem Rw.four {w : World} {base d : Nat} {v : Value} {cs : List (Ic × Value)} {t : TypeId} {ys : List Value} (h : Rw w base v cs) (hd : Own w d t ys) (h1 : t ≠ 56) (h2 : t ≠ 84) (a b c e : Value) : Rw ((((w.setCell ⟨d, 0, none⟩ a).setCell ⟨d, 1, none⟩ b).setCell ⟨d, 2, none⟩ c).setCell ⟨d, 3, none⟩ e) base v cs :=
  (((h.set hd h1 h2).set (hd.set 0 a) h1 h2).set ((hd.set 0 a).set 1 b) h1 h2).set (((hd.set 0 a).set 1 b).set 2 c) h1 h2
end Cm

namespace Cm
def mkI (m : Nat) : Array Value := madeCells #[.int .i64 0] (m * 1)
theorem mkI_list (m : Nat) : (mkI m).toList = (List.replicate m (0 : Int)).map (Value.int .i64) := by
  refine List.ext_getElem? fun i => ?_
  simp only [mkI, List.map_replicate]
  rw [Array.getElem?_toList, List.getElem?_replicate]
  by_cases hi : i < m
  · rw [if_pos hi]
    simp [madeCells, hi, Nat.mod_one]
  · rw [if_neg hi, Array.getElem?_eq_none (by simp [size_madeCells]; omega)]
theorem makeI_run (n : Nat) (hn : n ≤ 1048576) (w : World) :
    (Instr.makeSlice 44 (.int .i64 (n : Int)) (.int .i64 (n : Int))).run Try.prog w = .ok (.slice (some ⟨w.heap.size, 0, none⟩) n n) (w.alloc (.cells (mkI n) 2)) := by
  obtain ⟨i, hi, hz⟩ := Option.map_eq_some_iff.1 Try.info2
  simp only [Prod.mk.injEq] at hz
  obtain ⟨h1, h2, h3⟩ := hz
  have := run_make (P := Try.prog) w 44 2 i _ Try.underlying44 hi h1 .i64 .i64 (n : Int) (n : Int) (by omega) (by omega) (by rw [h3]; omega) (by omega)
  rw [this, h2]
  simp only [Int.toNat_natCast]
  rfl
theorem rep_owns {w : World} (n : Nat) (hn : n ≤ 1000) : (w.alloc (.cells (mkI n) 2)).ownsRow w.heap.size 2 1 (.slice (some ⟨w.heap.size, 0, none⟩) n n) (List.replicate n (0 : Int)).length ((List.replicate n (0 : Int)).map (Value.int .i64)) := by
  have hl := mkI_list n
  have hs : (mkI n).size = n := by rw [← Array.length_toList, hl]; simp
  refine ⟨by simp, .inr ⟨w.heap.size, n, mkI n, by simp, Nat.le_refl _, heap_alloc_new _ _, by simp, by unfold maxLen; omega, by rw [hs]; omega, ?_⟩⟩
  rw [hl]
  simp
end Cm

set_option maxRecDepth 100000 in
set_option maxHeartbeats 4000000 in
theorem specCompile_any (b : Nat) (l : List Co) (w : World) (hrow : Co.Row w b l) (hb : b < w.heap.size) (hn : l.length ≤ 1048576) (hsz : ∀ i, i < l.length → (l.getD i Co.zero).val.length ≤ 1048576) (hok : ∀ c ∈ l, c.ok) :
    Calls Try.prog 5 #[.slice (some ⟨b, 0, none⟩) l.length l.length] w (Cm.Told l w) := by
  have HR := hide hrow
  obtain ⟨w0, hw0⟩ : ∃ w0, w0 = w.alloc (.cells #[.int .i64 0, .int .i64 0, .slice none 0 0, .int .i64 0] 26) := ⟨_, rfl⟩
  have B0 : Below w.heap.size w w0 := by rw [hw0]; exact (Below.refl _ _).alloc (Nat.le_refl _) _
  have O0 : Own w0 w.heap.size 26 [.int .i64 0, .int .i64 0, .slice none 0 0, .int .i64 0] := by rw [hw0]; exact ⟨_, heap_alloc_new _ _, rfl⟩
  have HC := hide (specCoreFault_any b l w0 (hrow.below B0 hb) (Nat.lt_of_lt_of_le hb B0.size) hn hsz hok)
  clear hrow hsz hok
  go_enter Try.func5, Try.ntmps5
  go_wp2_with fail
  rw [← hw0]
  clear hw0
  refine (unhide HC).mono ?_
  clear HC
  rintro e w1 ⟨rfl, hb1⟩
  have B1 : Below w.heap.size w w1 := B0.trans (hb1.mono B0.size)
  have O1 := O0.below hb1 O0.lt
  clear O0 B0 hb1
  by_cases hs : Co.fault l ≠ 0
  · have fin := hide (Cm.out_bad hs)
    generalize Co.fault l = x at *
    have g1 : (x != 0) = true := by simpa using hs
    clear hs
    have c0 := O1.cell 0
    have c1 := O1.cell 1
    have c2 := O1.cell 2
    have c3 := O1.cell 3
    simp only [List.getElem?_cons_zero, List.getElem?_cons_succ] at c0 c1 c2 c3
    have z0 := O1.frozen 0
    have z1 := O1.frozen 1
    have z2 := O1.frozen 2
    have z3 := O1.frozen 3
    have hlt := O1.lt
    go_wp2_with fail
    refine bodyPost_ret (v := .agg #[.int .i64 x, .int .i64 0, .slice none 0 0, .int .i64 0]) (by simp [results, Try.results5, go_sem, c0, c1, c2, c3, hlt]; try rfl) rfl ⟨.slice none 0 0, [], by rw [unhide fin], by rw [unhide fin]; rfl, Cm.Rw.nil _ _, List.nodup_nil, ?_⟩
    have hle := B1.size
    repeat (first | exact B1 | refine Below.setCell ?_ (by simp <;> omega) _ | refine Below.alloc ?_ (by simp <;> omega) _)
  · have hf : Co.fault l = 0 := by simpa using hs
    have G := Cm.good_of hf
    have hszl := Cm.sz_all G
    have hbd := Cm.made_bd G.fine G.pos G.ord
    have h900 := G.le
    have hpos := G.pos
    have OM := hide (fun h => Cm.out_many hs h)
    have OO := hide (fun h => Cm.out_ok hs h)
    rw [hf]
    clear hs hf
    have hb1' : b < w1.heap.size := Nat.lt_of_lt_of_le hb B1.size
    have hrow1 := (unhide HR).below B1 hb
    obtain ⟨w2, hw2⟩ : ∃ w2, w2 = w1.alloc (.cells #[.slice (some ⟨b, 0, none⟩) l.length l.length, .slice none 0 0, .int .i64 0] 41) := ⟨_, rfl⟩
    have B2 : Below w1.heap.size w1 w2 := by rw [hw2]; exact (Below.refl _ _).alloc (Nat.le_refl _) _
    have hs2 : w2.heap.size = w1.heap.size + 1 := by rw [hw2]; simp
    have P2 : Own w2 w1.heap.size 41 ([.slice (some ⟨b, 0, none⟩) l.length l.length, .slice none 0 0, .int .i64 0] ++ []) := by rw [hw2]; exact ⟨_, heap_alloc_new _ _, rfl⟩
    have S2 : Cm.Sp 41 w2 w1.heap.size (.slice (some ⟨b, 0, none⟩) l.length l.length) [] ⟨[], 0⟩ (.slice none 0 0) [] := ⟨P2, Cm.Rw.nil _ _, rfl, List.nodup_nil⟩
    have O2 := O1.below B2 O1.lt
    obtain ⟨w3, hw3⟩ : ∃ w3, w3 = w2.alloc (.cells (Cm.mkI 60) 2) := ⟨_, rfl⟩
    have B3 : Below w2.heap.size w2 w3 := by rw [hw3]; exact (Below.refl _ _).alloc (Nat.le_refl _) _
    have R3 : w3.ownsRow w2.heap.size 2 1 (.slice (some ⟨w2.heap.size, 0, none⟩) 60 60) (List.replicate 60 (0 : Int)).length ((List.replicate 60 (0 : Int)).map (Value.int .i64)) := by
      rw [hw3]
      exact Cm.rep_owns 60 (by omega)
    have L3 : Cm.Lg 41 w1.heap.size (.slice (some ⟨b, 0, none⟩) l.length l.length) [] w3 ⟨[], 0⟩ w3 := Cm.Lg.start ⟨_, _, S2.below B3⟩
    have O3 := O2.below B3 O2.lt
    have BW3 : Below w1.heap.size w1 w3 := B2.trans (B3.mono B2.size)
    have HS := (l8Node_says w1 w1.heap.size b (.slice (some ⟨b, 0, none⟩) l.length l.length) l G (Nat.le_refl _) rfl hrow1 hb1' l.length (l.length - 1) (by omega) (by omega)).at (Nat.le_refl _) BW3 L3 R3 rfl (by have := hszl; rw [show ((l.length - 1 : Nat) : Int) = (l.length : Int) - 1 by omega, hszl]; show 0 + 14 * l.length ≤ 20000; omega) (Int.le_refl _) (by rw [show ((l.length - 1 : Nat) : Int) = (l.length : Int) - 1 by omega, hszl]; show (0 : Int) + 2 * (l.length : Int) ≤ 20000; omega) rfl
    rw [hs2] at HS
    rw [show ((l.length - 1 : Nat) : Int) = (l.length : Int) - 1 by omega] at HS
    obtain ⟨M1, hM1⟩ : ∃ s, Cm.code l l.length ((l.length : Int) - 1) (List.replicate 60 0) ⟨[], 0⟩ = s := ⟨_, rfl⟩
    rw [hM1] at HS
    obtain ⟨M2, hM2⟩ : ∃ s, M1.put 19 0 = s := ⟨_, rfl⟩
    have hM : Cm.made l = M2 := by rw [← hM2, ← hM1]; rfl
    rw [hM] at hbd
    have hl1 : M1.len ≤ 100000 := by have := Cm.put_len M1 19 0; rw [hM2] at this; omega
    have HOUT := hide (show (Cm.made l).ins = M2.ins ∧ (Cm.made l).regs = M2.regs ∧ (Cm.made l).len = M2.len by rw [hM]; exact ⟨rfl, rfl, rfl⟩)
    have HSY := hide HS
    have HPUT := hide (fun (W : World) (L : Cm.Lg 41 w1.heap.size (.slice (some ⟨b, 0, none⟩) l.length l.length) [] w3 M1 W) => Cm.put_lg 19 0 L hl1 hM2)
    have HOWN := hide (fun (W : World) (L : Cm.Lg 41 w1.heap.size (.slice (some ⟨b, 0, none⟩) l.length l.length) [] w3 M2 W) => show Own W w.heap.size 26 [.int .i64 0, .int .i64 0, .slice none 0 0, .int .i64 0] from L.2.own O3 (by decide) (by decide))
    have HBEL := hide (fun (W : World) (L : Cm.Lg 41 w1.heap.size (.slice (some ⟨b, 0, none⟩) l.length l.length) [] w3 M2 W) => show Below w.heap.size w W from B1.trans ((L.since (Nat.le_refl _) BW3).mono B1.size))
    have hlast : (0 : Int) < (l.length : Int) := by omega
    have hmk : ∀ w, (Instr.makeSlice 44 (.int .i64 60) (.int .i64 60)).run Try.prog w = .ok (.slice (some ⟨w.heap.size, 0, none⟩) 60 60) (w.alloc (.cells (Cm.mkI 60) 2)) := fun w => Cm.makeI_run 60 (by omega) w
    have hle1 := B1.size
    clear HS hszl G hM1 hM2 hM hl1 P2 S2 hrow1 HR B2 O2 O1 R3 B3 O3 BW3 hs2
    go_wp2_with fail
    rw [← hw2]
    clear hmk
    rw [← hw3]
    clear hw3
    clear hw2
    refine (unhide HSY).mono ?_
    rintro e w4 ⟨rfl, L4⟩
    go_wp2_with fail
    refine ((unhide HPUT) _ L4).mono ?_
    rintro e w5 ⟨rfl, L5⟩
    have O5 := (unhide HOWN) _ L5
    have B5 := (unhide HBEL) _ L5
    obtain ⟨⟨v5, cs5, S5⟩, _⟩ := L5
    obtain ⟨va, vc, hv⟩ := S5.row.slice
    rw [S5.len] at hv
    subst hv
    have p1 := S5.own.cell 1
    have p2 := S5.own.cell 2
    have c0 := O5.cell 0
    have c1 := O5.cell 1
    have c2 := O5.cell 2
    have c3 := O5.cell 3
    simp only [List.cons_append, List.nil_append, List.getElem?_cons_zero, List.getElem?_cons_succ] at p1 p2 c0 c1 c2 c3
    have z0 := O5.frozen 0
    have z1 := O5.frozen 1
    have z2 := O5.frozen 2
    have z3 := O5.frozen 3
    have hle5 := B5.size
    have hlt5 := O5.lt
    have HRW := hide (S5.row.mono (base' := w.heap.size) (by omega))
    have HEQ := hide S5.eq
    have HND := hide S5.nd
    have HO5 := hide O5
    rw [(unhide HOUT).2.1, (unhide HOUT).2.2] at OM OO
    rw [(unhide HOUT).1] at OO
    clear S5 O5 HOUT HSY HPUT HOWN HBEL L4 hbd
    obtain ⟨N, hN⟩ : ∃ N, M2.len = N := ⟨_, rfl⟩
    obtain ⟨Rg, hRg⟩ : ∃ N, M2.regs = N := ⟨_, rfl⟩
    rw [hN] at p1 OM OO HRW
    rw [hRg] at p2 OM OO
    clear hN hRg
    by_cases hA : 6000 < N
    · have fin := hide ((unhide OM) (.inl hA))
      have hAI : (6000 : Int) < (N : Int) := by omega
      go_wp2_with fail
      refine bodyPost_ret (v := .agg #[.int .i64 2, .int .i64 0, .slice none 0 0, .int .i64 0]) (by simp [results, Try.results5, go_sem, c0, c1, c2, c3]; try rfl) rfl ⟨.slice none 0 0, [], by rw [unhide fin], by rw [unhide fin]; rfl, Cm.Rw.nil _ _, List.nodup_nil, ?_⟩
      repeat (first | exact B5 | refine Below.setCell ?_ (by simp <;> omega) _ | refine Below.alloc ?_ (by simp <;> omega) _)
    · have hAI : decide ((6000 : Int) < (N : Int)) = false := decide_eq_false (by omega)
      by_cases hB : 1000 < Rg
      · have fin := hide ((unhide OM) (.inr hB))
        go_wp2_with fail
        refine bodyPost_ret (v := .agg #[.int .i64 2, .int .i64 0, .slice none 0 0, .int .i64 0]) (by simp [results, Try.results5, go_sem, c0, c1, c2, c3]; try rfl) rfl ⟨.slice none 0 0, [], by rw [unhide fin], by rw [unhide fin]; rfl, Cm.Rw.nil _ _, List.nodup_nil, ?_⟩
        repeat (first | exact B5 | refine Below.setCell ?_ (by simp <;> omega) _ | refine Below.alloc ?_ (by simp <;> omega) _)
      · have fin := hide ((unhide OO) (by omega))
        have hBI : decide (1000 < Rg) = false := decide_eq_false hB
        go_wp2_with fail
        refine bodyPost_ret (v := .agg #[.int .i64 0, .int .i64 0, .slice va N vc, .int .i64 Rg]) (by simp [results, Try.results5, go_sem, c0, c1, c2, c3]; try rfl) rfl ⟨.slice va N vc, cs5, by rw [unhide fin], by rw [unhide fin]; exact unhide HEQ, ?_, unhide HND, ?_⟩
        · exact Cm.Rw.four (unhide HRW) (unhide HO5) (by decide) (by decide) _ _ _ _
        · repeat (first | exact B5 | refine Below.setCell ?_ (by simp <;> omega) _ | refine Below.alloc ?_ (by simp <;> omega) _)

end Go.Proofs.Ytodpmonbfecfdaa
