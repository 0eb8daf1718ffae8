/-
  impl.CompileCore.
-/
import Derived.Test.YtodpmonbfecfdaaCiX
import Derived.Test.YtodpmonbfecfdaaCmY
import Derived.Test.YtodpmonbfecfdaaCorF
import Derived.Deep.CutRange
import Derived.Deep.WholeRow
namespace Go.Proofs.Ytodpmonbfecfdaa
open Go.RowKit
set_option linter.unusedVariables false
set_option linter.unusedSimpArgs false


namespace Cm
def coderArr (x : Value) : Array Value := (x :: .slice none 0 0 :: .int .i64 0 :: List.replicate 60 (Value.int .i64 0)).toArray
section
variable {P : Program} {ops : Array Oper} {rest : List Oper} {o : Oper} {a : Act} {Q : Exit → Act → World → Prop} {w w' : World} {v : Value}
theorem step_val (hgd : o.guard = none) (hr : (execOp a.eval o).run P w = .ok (.value v) w') (h : wpList P ops Q rest (a.put o.dst v) w') : wpList P ops Q (o :: rest) a w :=
  wpList_plain hgd fun K hK => by unfold Oper.wp; rw [hr]; exact hK _ _ h
theorem step_skip (hgd : o.guard = none) (hr : (execOp a.eval o).run P w = .ok .skip w') (h : wpList P ops Q rest (a.put o.dst undef) w') : wpList P ops Q (o :: rest) a w :=
  wpList_plain hgd fun K hK => by unfold Oper.wp; rw [hr]; exact hK _ _ h
end
theorem coderArr_size (x : Value) : (coderArr x).size = 63 := by simp [coderArr]
theorem coderInfo : (Try.prog.info? 52).map (·.size) = some 63 := by kernel_rfl
theorem coder_store (w : World) (o : Oper) (a : Act) (x : Option Addr × Nat × Nat) (ho : o.op = .store 52 (.tmp 4) (.tmp 12)) (ha : (a.eval (.tmp 4), a.eval (.tmp 12)) = (.pointer (some ⟨w.heap.size, 0, none⟩), .agg (coderArr (.slice x.1 x.2.1 x.2.2)))) :
    (execOp a.eval o).run Try.prog (w.alloc (.cells (coderArr (.slice none 0 0)) 52)) = .ok .skip (w.alloc (.cells (coderArr (.slice x.1 x.2.1 x.2.2)) 52)) := by
  simp only [Prod.mk.injEq] at ha
  have h := run_storeAt_new (P := Try.prog) w 52 (coderArr (.slice none 0 0)) (coderArr (.slice x.1 x.2.1 x.2.2)) (by rw [coderArr_size]; exact coderInfo) (by rw [coderArr_size, coderArr_size]) (by simp [coderArr, Value.oneCell'])
  unfold execOp
  simp only [ho, ha.1, ha.2, Sem.run_bind, h, Sem.run_pure, Result.andThen_ok]
end Cm

set_option maxRecDepth 100000 in
set_option maxHeartbeats 4000000 in
theorem implCompile_any (b : Nat) (l : List Co) (w : World) (hrow : Co.Row w b l) (hb : b < w.heap.size) (hn : l.length ≤ 1048576) (hsz : ∀ i, i < l.length → (l.getD i Co.zero).val.length ≤ 1048576) (hok : ∀ c ∈ l, c.ok) :
    Calls Try.prog 7 #[.slice (some ⟨b, 0, none⟩) l.length l.length] w (Cm.Told l w) := by
  have HR := hide hrow
  obtain ⟨w0, hw0⟩ : ∃ w0, w0 = w.alloc (.cells #[.int .i64 0, .int .i64 0, .slice none 0 0, .int .i64 0] 26) := ⟨_, rfl⟩
  have B0 : Below w.heap.size w w0 := by rw [hw0]; exact (Below.refl _ _).alloc (Nat.le_refl _) _
  have O0 : Own w0 w.heap.size 26 [.int .i64 0, .int .i64 0, .slice none 0 0, .int .i64 0] := by rw [hw0]; exact ⟨_, heap_alloc_new _ _, rfl⟩
  have HC := hide (implCoreFault_any b l w0 (hrow.below B0 hb) (Nat.lt_of_lt_of_le hb B0.size) hn hsz hok)
  clear hrow hsz hok
  go_enter Try.func7, Try.ntmps7
  go_wp2_with fail
  rw [← hw0]
  clear hw0
  refine (unhide HC).mono ?_
  clear HC
  rintro e w1 ⟨rfl, hb1⟩
  have B1 : Below w.heap.size w w1 := B0.trans (hb1.mono B0.size)
  have O1 := O0.below hb1 O0.lt
  clear O0 B0 hb1
  by_cases hs : Co.fault l ≠ 0
  · have fin := hide (Cm.out_bad hs)
    generalize Co.fault l = x at *
    have g1 : (x != 0) = true := by simpa using hs
    clear hs
    have c0 := O1.cell 0
    have c1 := O1.cell 1
    have c2 := O1.cell 2
    have c3 := O1.cell 3
    simp only [List.getElem?_cons_zero, List.getElem?_cons_succ] at c0 c1 c2 c3
    have z0 := O1.frozen 0
    have z1 := O1.frozen 1
    have z2 := O1.frozen 2
    have z3 := O1.frozen 3
    have hlt := O1.lt
    go_wp2_with fail
    refine bodyPost_ret (v := .agg #[.int .i64 x, .int .i64 0, .slice none 0 0, .int .i64 0]) (by simp [results, Try.results7, go_sem, c0, c1, c2, c3, hlt]; try rfl) rfl ⟨.slice none 0 0, [], by rw [unhide fin], by rw [unhide fin]; rfl, Cm.Rw.nil _ _, List.nodup_nil, ?_⟩
    have hle := B1.size
    repeat (first | exact B1 | refine Below.setCell ?_ (by simp <;> omega) _ | refine Below.alloc ?_ (by simp <;> omega) _)
  · have hf : Co.fault l = 0 := by simpa using hs
    have G := Cm.good_of hf
    have hszl := Cm.sz_all G
    have hbd := Cm.made_bd G.fine G.pos G.ord
    have h900 := G.le
    have hpos := G.pos
    have OM := hide (fun h => Cm.out_many hs h)
    have OO := hide (fun h => Cm.out_ok hs h)
    rw [hf]
    clear hs hf
    have hb1' : b < w1.heap.size := Nat.lt_of_lt_of_le hb B1.size
    have hrow1 := (unhide HR).below B1 hb
    go_upto_region 4 with fail
    go_cut [4] from 9 to 34 (fun s4 w2 => s4 = .pointer (some ⟨w1.heap.size, 0, none⟩) ∧ Own w2 w1.heap.size 52 ([.slice (some ⟨b, 0, none⟩) l.length l.length, .slice none 0 0, .int .i64 0] ++ (List.replicate 60 (0 : Int)).map (Value.int .i64)) ∧ Below w1.heap.size w1 w2)
    case first =>
      refine wp_region_lit ?_
      refine Cm.step_val (v := .slice (some ⟨b, 0, none⟩) l.length l.length) (w' := w1) rfl (by rfl) ?_
      refine Cm.step_val (v := .agg (Cm.coderArr (.slice (some ⟨b, 0, none⟩) l.length l.length))) (w' := w1) rfl (by kernel_rfl) ?_
      refine Cm.step_val (v := .pointer (some ⟨w1.heap.size, 0, none⟩)) (w' := w1.alloc (.cells (Cm.coderArr (.slice none 0 0)) 52)) rfl (by kernel_rfl) ?_
      refine Cm.step_skip (w' := w1.alloc (.cells (Cm.coderArr (.slice (some ⟨b, 0, none⟩) l.length l.length)) 52)) rfl (Cm.coder_store w1 _ _ (some ⟨b, 0, none⟩, l.length, l.length) rfl rfl) ?_
      simp only [Act.put, List.setIfInBounds_toArray, List.set_cons_zero, List.set_cons_succ]
      go_wp2_with fail
      go_meet
      case rel => exact ⟨rfl, ⟨_, heap_alloc_new _ _, rfl⟩, (Below.refl _ _).alloc (Nat.le_refl _) _⟩
    case rest =>
    obtain ⟨rfl, P2, B2⟩ := hcut
    obtain ⟨w2, hw2⟩ : ∃ w2, wc = w2 := ⟨_, rfl⟩
    rw [hw2] at P2 B2
    have hs2 := B2.size
    have S2 : Cm.Sp 52 w2 w1.heap.size (.slice (some ⟨b, 0, none⟩) l.length l.length) ((List.replicate 60 (0 : Int)).map (Value.int .i64)) ⟨[], 0⟩ (.slice none 0 0) [] := ⟨P2, Cm.Rw.nil _ _, rfl, List.nodup_nil⟩
    have O2 := O1.below B2 O1.lt
    have w3e : w2 = w2 := rfl
    have L3 : Cm.Li w1.heap.size (.slice (some ⟨b, 0, none⟩) l.length l.length) ((List.replicate 60 (0 : Int)).map (Value.int .i64)) w2 (.slice none 0 0) [] ⟨[], 0⟩ w2 := Cm.Li.start S2
    have HS := (clay_says w1 w1.heap.size b (.slice (some ⟨b, 0, none⟩) l.length l.length) l G (Nat.le_refl _) rfl hrow1 hb1' l.length (l.length - 1) (by omega) (by omega)).at (Nat.le_refl _) B2 (fun b hb => by simp [Value.ownBlock] at hb) L3 rfl (by rw [show ((l.length - 1 : Nat) : Int) = (l.length : Int) - 1 by omega, hszl]; show 0 + 14 * l.length ≤ 20000; omega) (Int.le_refl _) (by rw [show ((l.length - 1 : Nat) : Int) = (l.length : Int) - 1 by omega, hszl]; show (0 : Int) + 2 * (l.length : Int) ≤ 20000; omega) rfl
    rw [show ((l.length - 1 : Nat) : Int) = (l.length : Int) - 1 by omega] at HS
    obtain ⟨M1, hM1⟩ : ∃ s, Cm.code l l.length ((l.length : Int) - 1) (List.replicate 60 0) ⟨[], 0⟩ = s := ⟨_, rfl⟩
    rw [hM1] at HS
    obtain ⟨M2, hM2⟩ : ∃ s, M1.put 19 0 = s := ⟨_, rfl⟩
    have hM : Cm.made l = M2 := by rw [← hM2, ← hM1]; rfl
    rw [hM] at hbd
    have hl1 : M1.len ≤ 100000 := by have := Cm.put_len M1 19 0; rw [hM2] at this; omega
    have HOUT := hide (show (Cm.made l).ins = M2.ins ∧ (Cm.made l).regs = M2.regs ∧ (Cm.made l).len = M2.len by rw [hM]; exact ⟨rfl, rfl, rfl⟩)
    have HSY := hide HS
    have HPUT := hide (fun (W : World) (L : Cm.Li w1.heap.size (.slice (some ⟨b, 0, none⟩) l.length l.length) ((List.replicate 60 (0 : Int)).map (Value.int .i64)) w2 (.slice none 0 0) [] M1 W) => Cm.put1_li 19 0 L hl1 hM2)
    have HOWN := hide (fun (W : World) (L : Cm.Li w1.heap.size (.slice (some ⟨b, 0, none⟩) l.length l.length) ((List.replicate 60 (0 : Int)).map (Value.int .i64)) w2 (.slice none 0 0) [] M2 W) => show Own W w.heap.size 26 [.int .i64 0, .int .i64 0, .slice none 0 0, .int .i64 0] from L.own O2 (by have := O1.lt; omega) (by simp [Value.ownBlock]))
    have HBEL := hide (fun (W : World) (L : Cm.Li w1.heap.size (.slice (some ⟨b, 0, none⟩) l.length l.length) ((List.replicate 60 (0 : Int)).map (Value.int .i64)) w2 (.slice none 0 0) [] M2 W) => show Below w.heap.size w W from B1.trans ((L.since (Nat.le_refl _) B2 (fun b hb => by simp [Value.ownBlock] at hb)).mono B1.size))
    have hlast : (0 : Int) < (l.length : Int) := by omega
    have hle1 := B1.size
    clear HS hszl G hM1 hM2 hM hl1 P2 S2 hrow1 HR B2 O2 O1 w3e hs2
    go_wp2_with fail
    try rw [hw2]
    clear hw2
    refine (unhide HSY).mono ?_
    rintro e w4 ⟨rfl, L4⟩
    go_wp2_with fail
    refine ((unhide HPUT) _ L4).mono ?_
    rintro e w5 ⟨rfl, L5⟩
    have O5 := (unhide HOWN) _ L5
    have B5 := (unhide HBEL) _ L5
    obtain ⟨v5, cs5, S5, _⟩ := L5
    obtain ⟨va, vc, hv⟩ := S5.row.slice
    rw [S5.len] at hv
    subst hv
    have p1 := S5.own.cell 1
    have p2 := S5.own.cell 2
    have c0 := O5.cell 0
    have c1 := O5.cell 1
    have c2 := O5.cell 2
    have c3 := O5.cell 3
    simp only [List.cons_append, List.nil_append, List.getElem?_cons_zero, List.getElem?_cons_succ] at p1 p2 c0 c1 c2 c3
    have z0 := O5.frozen 0
    have z1 := O5.frozen 1
    have z2 := O5.frozen 2
    have z3 := O5.frozen 3
    have hle5 := B5.size
    have hlt5 := O5.lt
    have HRW := hide (S5.row.mono (base' := w.heap.size) (by omega))
    have HEQ := hide S5.eq
    have HND := hide S5.nd
    have HO5 := hide O5
    rw [(unhide HOUT).2.1, (unhide HOUT).2.2] at OM OO
    rw [(unhide HOUT).1] at OO
    clear S5 O5 HOUT HSY HPUT HOWN HBEL L4 hbd
    obtain ⟨N, hN⟩ : ∃ N, M2.len = N := ⟨_, rfl⟩
    obtain ⟨Rg, hRg⟩ : ∃ N, M2.regs = N := ⟨_, rfl⟩
    rw [hN] at p1 OM OO HRW
    rw [hRg] at p2 OM OO
    clear hN hRg
    by_cases hA : 6000 < N
    · have fin := hide ((unhide OM) (.inl hA))
      have hAI : (6000 : Int) < (N : Int) := by omega
      go_wp2_with fail
      refine bodyPost_ret (v := .agg #[.int .i64 2, .int .i64 0, .slice none 0 0, .int .i64 0]) (by simp [results, Try.results7, go_sem, c0, c1, c2, c3]; try rfl) rfl ⟨.slice none 0 0, [], by rw [unhide fin], by rw [unhide fin]; rfl, Cm.Rw.nil _ _, List.nodup_nil, ?_⟩
      repeat (first | exact B5 | refine Below.setCell ?_ (by simp <;> omega) _ | refine Below.alloc ?_ (by simp <;> omega) _)
    · have hAI : decide ((6000 : Int) < (N : Int)) = false := decide_eq_false (by omega)
      by_cases hB : 1000 < Rg
      · have fin := hide ((unhide OM) (.inr hB))
        go_wp2_with fail
        refine bodyPost_ret (v := .agg #[.int .i64 2, .int .i64 0, .slice none 0 0, .int .i64 0]) (by simp [results, Try.results7, go_sem, c0, c1, c2, c3]; try rfl) rfl ⟨.slice none 0 0, [], by rw [unhide fin], by rw [unhide fin]; rfl, Cm.Rw.nil _ _, List.nodup_nil, ?_⟩
        repeat (first | exact B5 | refine Below.setCell ?_ (by simp <;> omega) _ | refine Below.alloc ?_ (by simp <;> omega) _)
      · have fin := hide ((unhide OO) (by omega))
        have hBI : decide (1000 < Rg) = false := decide_eq_false hB
        go_wp2_with fail
        refine bodyPost_ret (v := .agg #[.int .i64 0, .int .i64 0, .slice va N vc, .int .i64 Rg]) (by simp [results, Try.results7, go_sem, c0, c1, c2, c3]; try rfl) rfl ⟨.slice va N vc, cs5, by rw [unhide fin], by rw [unhide fin]; exact unhide HEQ, ?_, unhide HND, ?_⟩
        · exact Cm.Rw.four (unhide HRW) (unhide HO5) (by decide) (by decide) _ _ _ _
        · repeat (first | exact B5 | refine Below.setCell ?_ (by simp <;> omega) _ | refine Below.alloc ?_ (by simp <;> omega) _)

end Go.Proofs.Ytodpmonbfecfdaa
