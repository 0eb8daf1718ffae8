/-
  spec.l4Draw: a token, whatever it is.
-/
import Derived.Test.YtabpjknbdahddaaGreatDoorDrwT
namespace Go.Proofs.YtabpjknbdahddaaGreatDoor
open Go.RowKit
set_option linter.unusedVariables false
set_option linter.unusedSimpArgs false


theorem Dr.fin {w wr : World} {bs len cap at_ T : Nat} {a : Option Addr} {t : Tk} (h : Dr w wr bs a len cap at_ T t) (x0 x1 x2 x3 : Value) : Src ((((wr.setCell ⟨w.heap.size, 0, none⟩ x0).setCell ⟨w.heap.size, 1, none⟩ x1).setCell ⟨w.heap.size, 2, none⟩ x2).setCell ⟨w.heap.size, 3, none⟩ x3) bs a len cap at_ ∧ Tch w.heap.size bs w ((((wr.setCell ⟨w.heap.size, 0, none⟩ x0).setCell ⟨w.heap.size, 1, none⟩ x1).setCell ⟨w.heap.size, 2, none⟩ x2).setCell ⟨w.heap.size, 3, none⟩ x3) := by
  have hb := h.bsT.1
  refine ⟨(((h.src.set _ 0 x0 hb).set _ 1 x1 hb).set _ 2 x2 hb).set _ 3 x3 hb, ?_⟩
  have s : ∀ {u : World} (j : Nat) (x : Value), Tch w.heap.size bs w u → Tch w.heap.size bs w (u.setCell ⟨w.heap.size, j, none⟩ x) := fun j x h => ⟨h.os, h.tape, h.output, by have := h.size; simpa using this, fun k hk hn => (heap_setCell_other _ ⟨w.heap.size, j, none⟩ k x (by simp only; omega)).trans (h.block k hk hn)⟩
  exact s 3 x3 (s 2 x2 (s 1 x1 (s 0 x0 h.tch)))
/-- What l4Draw answers. -/
def DrawSaid (w : World) (bs : Nat) (a : Option Addr) (len cap at_ : Nat) (e : Ending) (w' : World) : Prop := ∃ (t : Tk) (at2 : Nat), e = .returned (.agg #[.int .i64 t.kind, .int .i64 t.at_, .int .i64 t.num, .string t.text]) ∧ t.text.size ≤ 100 ∧ at2 ≤ at_ + 10 ∧ Src w' bs a len cap at2 ∧ Tch w.heap.size bs w w'
theorem alloc2_new (w : World) (o o' : Obj) : ((w.alloc o).alloc o').heap[w.heap.size + 1]? = some o' := by
  have h := heap_alloc_new (w.alloc o) o'
  rw [World.size_alloc] at h
  exact h
theorem marks_size : ∀ t ∈ theMarks, t.size ≤ 100 := by decide

set_option maxRecDepth 100000 in
set_option maxHeartbeats 20000000 in
theorem l4Draw_any (bs len cap at_ : Nat) (a : Option Addr) (w : World) (h : Src w bs a len cap at_) (hat : at_ ≤ 999999000) :
    Calls Tryz.prog 35 #[.pointer (some ⟨bs, 0, none⟩)] w (DrawSaid w bs a len cap at_) := by
  have hbs := h.lt
  obtain ⟨w0, hw0⟩ : ∃ w0, w0 = w.alloc (.cells #[.int .i64 0, .int .i64 0, .int .i64 0, .string ByteArray.empty] 33) := ⟨_, rfl⟩
  have S0 : Src w0 bs a len cap at_ := by rw [hw0]; exact h.alloc _
  have T0 : Tch w.heap.size bs w w0 := by rw [hw0]; exact Tch.of_below' ((Below.refl _ _).alloc (Nat.le_refl _) _)
  have R0 : Own w0 w.heap.size 33 [.int .i64 0, .int .i64 0, .int .i64 0, .string ByteArray.empty] := by rw [hw0]; exact ⟨_, heap_alloc_new _ _, rfl⟩
  clear h
  go_enter Tryz.func35, Tryz.ntmps35
  go_wp2_with fail
  try (rw [show (w.alloc (.cells #[.int .i64 0, .int .i64 0, .int .i64 0, .string { data := #[] }] 33)) = w0 from hw0.symm])
  clear hw0
  refine (l1Next_any 6 bs len cap at_ a _ S0 (by decide) (by omega)).mono ?_
  rintro e w1 ⟨r1, rfl, hr1, S1, T1⟩
  have hr1' : r1 < 6 := by have := hr1 (by decide); omega
  have w11 : IntKind.i64.wrap ((1 : Int) + (r1 : Int)) = (1 : Int) + (r1 : Int) := IntWalk.i64_in _ ⟨by omega, by omega⟩
  have R1 := T1.own R0 R0.lt (by omega)
  have TT1 := T0.trans (T1.mono T0.size)
  go_wp2_with fail
  refine (l1Next_any 9 bs len cap (at_ + 1) a _ S1 (by decide) (by omega)).mono ?_
  rintro e w2 ⟨r2, rfl, hr2, S2, T2⟩
  have R2 := T2.own R1 R1.lt (by omega)
  have TT2 := TT1.trans (T2.mono TT1.size)
  have hRlt := R2.lt
  have hbs2 := S2.lt
  have HDD := hide (fun (k : Int) => show Dr w (w2.alloc (.cells #[.int .i64 k, .int .i64 (r2 : Int), .int .i64 0, .string ByteArray.empty] 33)) bs a len cap (at_ + 1 + 1) w2.heap.size ⟨k, (r2 : Int), 0, ByteArray.empty⟩ from ⟨S2.alloc _, TT2.trans (Tch.of_below' (((Below.refl _ _).alloc (Nat.le_refl _) _).mono TT2.size)), R2.alloc _, ⟨_, heap_alloc_new _ _, rfl⟩, hbs, hRlt⟩)
  clear S0 T0 R0 S1 T1 R1 TT1 S2 T2 R2 TT2 hr1 hr2 w11
  obtain rfl | rfl | rfl | rfl | rfl | rfl : r1 = 0 ∨ r1 = 1 ∨ r1 = 2 ∨ r1 = 3 ∨ r1 = 4 ∨ r1 = 5 := by omega
  · have D2 := (unhide HDD) 1
    clear HDD
    go_wp2_with fail
    refine (l1Next_any 90 bs len cap (at_ + 1 + 1) a _ D2.src (by decide) (by omega)).mono ?_
    rintro e w3 ⟨r3, rfl, hr3, Sw3, Tw3⟩
    have D3 := D2.go Sw3 Tw3
    clear D2 Sw3 Tw3 hr3
    have s2 := D3.own.cell 2
    have y2 := D3.own.frozen 2
    simp only [Tk.vals, List.getElem?_cons_zero, List.getElem?_cons_succ] at s2
    have D4 := D3.set 2 (.int .i64 (r3 : Int)) (t2 := ⟨1, (r2 : Int), (r3 : Int), ByteArray.empty⟩) rfl
    clear D3
    go_wp2_with fail
    refine (l1Next_any 24 bs len cap (at_ + 1 + 1 + 1) a _ D4.src (by decide) (by omega)).mono ?_
    rintro e w5 ⟨r5, rfl, hr5, Sw5, Tw5⟩
    have D5 := D4.go Sw5 Tw5
    clear D4 Sw5 Tw5
    by_cases e0 : r5 = 0
    · subst e0
      go_wp2_with fail
      refine (l1Next_any 6 bs len cap (at_ + 1 + 1 + 1 + 1) a _ D5.src (by decide) (by omega)).mono ?_
      rintro e w6 ⟨r6, rfl, hr6, Sw6, Tw6⟩
      have D6 := D5.go Sw6 Tw6
      clear D5 Sw6 Tw6
      have w16 : IntKind.i64.wrap ((1 : Int) + (r6 : Int)) = (1 : Int) + (r6 : Int) := IntWalk.i64_in _ ⟨by omega, by have := hr6 (by decide); omega⟩
      have D7 := D6.alloc (.cells #[.int .i64 0, .int .i64 7, .int .i64 ((1 : Int) + (r6 : Int))] 2)
      have HP := hide (l1Pick_any [0, 7, (1 : Int) + (r6 : Int)] w6.heap.size bs len cap (at_ + 1 + 1 + 1 + 1 + 1) a _ D7.src ⟨_, heap_alloc_new _ _, rfl⟩ (by have := D6.src.lt; omega) (by simp) (by simp) (by omega))
      clear D6
      go_wp2_with fail
      refine (unhide HP).mono ?_
      rintro e w8 ⟨⟨x, hx, rfl⟩, Sw8, Tw8⟩
      have D8 := D7.go Sw8 Tw8
      clear D7 Sw8 Tw8 HP hx
      have s0 := D8.own.cell 0
      have y0 := D8.own.frozen 0
      simp only [Tk.vals, List.getElem?_cons_zero, List.getElem?_cons_succ] at s0
      have D9 := D8.set 0 (.int .i64 x) (t2 := ⟨x, (r2 : Int), (r3 : Int), ByteArray.empty⟩) rfl
      clear D8
      have HF := hide (D9.fin)
      have c0 := D9.res.cell 0
      have c1 := D9.res.cell 1
      have c2 := D9.res.cell 2
      have c3 := D9.res.cell 3
      have z0 := D9.res.frozen 0
      have z1 := D9.res.frozen 1
      have z2 := D9.res.frozen 2
      have z3 := D9.res.frozen 3
      have g0 := D9.own.cell 0
      have g1 := D9.own.cell 1
      have g2 := D9.own.cell 2
      have g3 := D9.own.cell 3
      simp only [Tk.vals, List.getElem?_cons_zero, List.getElem?_cons_succ] at c0 c1 c2 c3 g0 g1 g2 g3
      clear D9
      go_wp2_with fail
      refine bodyPost_ret (v := .agg #[.int .i64 (x), .int .i64 ((r2 : Int)), .int .i64 ((r3 : Int)), .string ByteArray.empty]) (by simp [results, Tryz.results35, go_sem, c0, c1, c2, c3]; try rfl) rfl ⟨⟨x, (r2 : Int), (r3 : Int), ByteArray.empty⟩, at_ + 1 + 1 + 1 + 1 + 1 + 1, rfl, (show (ByteArray.empty : ByteArray).size ≤ 100 by decide), by omega, ((unhide HF) _ _ _ _).1, ((unhide HF) _ _ _ _).2⟩
    by_cases e1 : r5 = 1
    · subst e1
      have D7 := D5.alloc (.cells #[.int .i64 1, .int .i64 (-1), .int .i64 1000000000000000, .int .i64 1000000000000001] 2)
      have HP := hide (l1Pick_any [1, -1, 1000000000000000, 1000000000000001] w5.heap.size bs len cap (at_ + 1 + 1 + 1 + 1) a _ D7.src ⟨_, heap_alloc_new _ _, rfl⟩ (by have := D5.src.lt; omega) (by simp) (by simp) (by omega))
      clear D5
      go_wp2_with fail
      refine (unhide HP).mono ?_
      rintro e w8 ⟨⟨x, hx, rfl⟩, Sw8, Tw8⟩
      have D8 := D7.go Sw8 Tw8
      clear D7 Sw8 Tw8 HP hx
      have s2 := D8.own.cell 2
      have y2 := D8.own.frozen 2
      simp only [Tk.vals, List.getElem?_cons_zero, List.getElem?_cons_succ] at s2
      have D9 := D8.set 2 (.int .i64 x) (t2 := ⟨1, (r2 : Int), x, ByteArray.empty⟩) rfl
      clear D8
      have HF := hide (D9.fin)
      have c0 := D9.res.cell 0
      have c1 := D9.res.cell 1
      have c2 := D9.res.cell 2
      have c3 := D9.res.cell 3
      have z0 := D9.res.frozen 0
      have z1 := D9.res.frozen 1
      have z2 := D9.res.frozen 2
      have z3 := D9.res.frozen 3
      have g0 := D9.own.cell 0
      have g1 := D9.own.cell 1
      have g2 := D9.own.cell 2
      have g3 := D9.own.cell 3
      simp only [Tk.vals, List.getElem?_cons_zero, List.getElem?_cons_succ] at c0 c1 c2 c3 g0 g1 g2 g3
      clear D9
      go_wp2_with fail
      refine bodyPost_ret (v := .agg #[.int .i64 (1), .int .i64 ((r2 : Int)), .int .i64 (x), .string ByteArray.empty]) (by simp [results, Tryz.results35, go_sem, c0, c1, c2, c3]; try rfl) rfl ⟨⟨1, (r2 : Int), x, ByteArray.empty⟩, at_ + 1 + 1 + 1 + 1 + 1, rfl, (show (ByteArray.empty : ByteArray).size ≤ 100 by decide), by omega, ((unhide HF) _ _ _ _).1, ((unhide HF) _ _ _ _).2⟩
    by_cases e2 : r5 = 2
    · subst e2
      have HN := hide (fun o => l1Next_any 5 bs len cap (at_ + 1 + 1 + 1 + 1) a (w5.alloc o) (D5.alloc o).src (by decide) (by omega))
      have HD := hide (fun o => D5.alloc o)
      have hlt5 := D5.src.lt
      clear D5
      go_wp2_with fail
      refine ((unhide HN) _).mono ?_
      rintro e w8 ⟨r8, rfl, hr8, Sw8, Tw8⟩
      have hr' : r8 < 5 := by have := hr8 (by decide); omega
      have O1 : Own w8 w5.heap.size 9 _ := ⟨_, (Tw8.block w5.heap.size (by simp) (by omega)).trans (heap_alloc_new _ _), rfl⟩
      have hc := O1.cell r8
      have D8 := ((unhide HD) _).go Sw8 Tw8
      clear O1 HN HD Sw8 Tw8 hr8
      have s3 := D8.own.cell 3
      have y3 := D8.own.frozen 3
      simp only [Tk.vals, List.getElem?_cons_zero, List.getElem?_cons_succ] at s3
      obtain rfl | rfl | rfl | rfl | rfl : r8 = 0 ∨ r8 = 1 ∨ r8 = 2 ∨ r8 = 3 ∨ r8 = 4 := by omega
      · simp only [List.getElem?_cons_zero, List.getElem?_cons_succ] at hc
        have D9 := D8.set 3 (.string ⟨#[]⟩) (t2 := ⟨1, (r2 : Int), (r3 : Int), ⟨#[]⟩⟩) rfl
        clear D8
        have HF := hide (D9.fin)
        have c0 := D9.res.cell 0
        have c1 := D9.res.cell 1
        have c2 := D9.res.cell 2
        have c3 := D9.res.cell 3
        have z0 := D9.res.frozen 0
        have z1 := D9.res.frozen 1
        have z2 := D9.res.frozen 2
        have z3 := D9.res.frozen 3
        have g0 := D9.own.cell 0
        have g1 := D9.own.cell 1
        have g2 := D9.own.cell 2
        have g3 := D9.own.cell 3
        simp only [Tk.vals, List.getElem?_cons_zero, List.getElem?_cons_succ] at c0 c1 c2 c3 g0 g1 g2 g3
        clear D9
        go_wp2_with fail
        refine bodyPost_ret (v := .agg #[.int .i64 (1), .int .i64 ((r2 : Int)), .int .i64 ((r3 : Int)), .string ⟨#[]⟩]) (by simp [results, Tryz.results35, go_sem, c0, c1, c2, c3]; try rfl) rfl ⟨⟨1, (r2 : Int), (r3 : Int), ⟨#[]⟩⟩, at_ + 1 + 1 + 1 + 1 + 1, rfl, (show (⟨#[]⟩ : ByteArray).size ≤ 100 by decide), by omega, ((unhide HF) _ _ _ _).1, ((unhide HF) _ _ _ _).2⟩
      · simp only [List.getElem?_cons_zero, List.getElem?_cons_succ] at hc
        have D9 := D8.set 3 (.string ⟨#[65]⟩) (t2 := ⟨1, (r2 : Int), (r3 : Int), ⟨#[65]⟩⟩) rfl
        clear D8
        have HF := hide (D9.fin)
        have c0 := D9.res.cell 0
        have c1 := D9.res.cell 1
        have c2 := D9.res.cell 2
        have c3 := D9.res.cell 3
        have z0 := D9.res.frozen 0
        have z1 := D9.res.frozen 1
        have z2 := D9.res.frozen 2
        have z3 := D9.res.frozen 3
        have g0 := D9.own.cell 0
        have g1 := D9.own.cell 1
        have g2 := D9.own.cell 2
        have g3 := D9.own.cell 3
        simp only [Tk.vals, List.getElem?_cons_zero, List.getElem?_cons_succ] at c0 c1 c2 c3 g0 g1 g2 g3
        clear D9
        go_wp2_with fail
        refine bodyPost_ret (v := .agg #[.int .i64 (1), .int .i64 ((r2 : Int)), .int .i64 ((r3 : Int)), .string ⟨#[65]⟩]) (by simp [results, Tryz.results35, go_sem, c0, c1, c2, c3]; try rfl) rfl ⟨⟨1, (r2 : Int), (r3 : Int), ⟨#[65]⟩⟩, at_ + 1 + 1 + 1 + 1 + 1, rfl, (show (⟨#[65]⟩ : ByteArray).size ≤ 100 by decide), by omega, ((unhide HF) _ _ _ _).1, ((unhide HF) _ _ _ _).2⟩
      · simp only [List.getElem?_cons_zero, List.getElem?_cons_succ] at hc
        have D9 := D8.set 3 (.string ⟨#[120, 32, 121]⟩) (t2 := ⟨1, (r2 : Int), (r3 : Int), ⟨#[120, 32, 121]⟩⟩) rfl
        clear D8
        have HF := hide (D9.fin)
        have c0 := D9.res.cell 0
        have c1 := D9.res.cell 1
        have c2 := D9.res.cell 2
        have c3 := D9.res.cell 3
        have z0 := D9.res.frozen 0
        have z1 := D9.res.frozen 1
        have z2 := D9.res.frozen 2
        have z3 := D9.res.frozen 3
        have g0 := D9.own.cell 0
        have g1 := D9.own.cell 1
        have g2 := D9.own.cell 2
        have g3 := D9.own.cell 3
        simp only [Tk.vals, List.getElem?_cons_zero, List.getElem?_cons_succ] at c0 c1 c2 c3 g0 g1 g2 g3
        clear D9
        go_wp2_with fail
        refine bodyPost_ret (v := .agg #[.int .i64 (1), .int .i64 ((r2 : Int)), .int .i64 ((r3 : Int)), .string ⟨#[120, 32, 121]⟩]) (by simp [results, Tryz.results35, go_sem, c0, c1, c2, c3]; try rfl) rfl ⟨⟨1, (r2 : Int), (r3 : Int), ⟨#[120, 32, 121]⟩⟩, at_ + 1 + 1 + 1 + 1 + 1, rfl, (show (⟨#[120, 32, 121]⟩ : ByteArray).size ≤ 100 by decide), by omega, ((unhide HF) _ _ _ _).1, ((unhide HF) _ _ _ _).2⟩
      · simp only [List.getElem?_cons_zero, List.getElem?_cons_succ] at hc
        have D9 := D8.set 3 (.string ⟨#[10]⟩) (t2 := ⟨1, (r2 : Int), (r3 : Int), ⟨#[10]⟩⟩) rfl
        clear D8
        have HF := hide (D9.fin)
        have c0 := D9.res.cell 0
        have c1 := D9.res.cell 1
        have c2 := D9.res.cell 2
        have c3 := D9.res.cell 3
        have z0 := D9.res.frozen 0
        have z1 := D9.res.frozen 1
        have z2 := D9.res.frozen 2
        have z3 := D9.res.frozen 3
        have g0 := D9.own.cell 0
        have g1 := D9.own.cell 1
        have g2 := D9.own.cell 2
        have g3 := D9.own.cell 3
        simp only [Tk.vals, List.getElem?_cons_zero, List.getElem?_cons_succ] at c0 c1 c2 c3 g0 g1 g2 g3
        clear D9
        go_wp2_with fail
        refine bodyPost_ret (v := .agg #[.int .i64 (1), .int .i64 ((r2 : Int)), .int .i64 ((r3 : Int)), .string ⟨#[10]⟩]) (by simp [results, Tryz.results35, go_sem, c0, c1, c2, c3]; try rfl) rfl ⟨⟨1, (r2 : Int), (r3 : Int), ⟨#[10]⟩⟩, at_ + 1 + 1 + 1 + 1 + 1, rfl, (show (⟨#[10]⟩ : ByteArray).size ≤ 100 by decide), by omega, ((unhide HF) _ _ _ _).1, ((unhide HF) _ _ _ _).2⟩
      · simp only [List.getElem?_cons_zero, List.getElem?_cons_succ] at hc
        have D9 := D8.set 3 (.string ⟨#[33]⟩) (t2 := ⟨1, (r2 : Int), (r3 : Int), ⟨#[33]⟩⟩) rfl
        clear D8
        have HF := hide (D9.fin)
        have c0 := D9.res.cell 0
        have c1 := D9.res.cell 1
        have c2 := D9.res.cell 2
        have c3 := D9.res.cell 3
        have z0 := D9.res.frozen 0
        have z1 := D9.res.frozen 1
        have z2 := D9.res.frozen 2
        have z3 := D9.res.frozen 3
        have g0 := D9.own.cell 0
        have g1 := D9.own.cell 1
        have g2 := D9.own.cell 2
        have g3 := D9.own.cell 3
        simp only [Tk.vals, List.getElem?_cons_zero, List.getElem?_cons_succ] at c0 c1 c2 c3 g0 g1 g2 g3
        clear D9
        go_wp2_with fail
        refine bodyPost_ret (v := .agg #[.int .i64 (1), .int .i64 ((r2 : Int)), .int .i64 ((r3 : Int)), .string ⟨#[33]⟩]) (by simp [results, Tryz.results35, go_sem, c0, c1, c2, c3]; try rfl) rfl ⟨⟨1, (r2 : Int), (r3 : Int), ⟨#[33]⟩⟩, at_ + 1 + 1 + 1 + 1 + 1, rfl, (show (⟨#[33]⟩ : ByteArray).size ≤ 100 by decide), by omega, ((unhide HF) _ _ _ _).1, ((unhide HF) _ _ _ _).2⟩
    have b0 : ((r5 : Int) == 0) = false := by rw [beq_eq_false_iff_ne]; omega
    have b1 : ((r5 : Int) == 1) = false := by rw [beq_eq_false_iff_ne]; omega
    have b2 : ((r5 : Int) == 2) = false := by rw [beq_eq_false_iff_ne]; omega
    have HF := hide (D5.fin)
    have c0 := D5.res.cell 0
    have c1 := D5.res.cell 1
    have c2 := D5.res.cell 2
    have c3 := D5.res.cell 3
    have z0 := D5.res.frozen 0
    have z1 := D5.res.frozen 1
    have z2 := D5.res.frozen 2
    have z3 := D5.res.frozen 3
    have g0 := D5.own.cell 0
    have g1 := D5.own.cell 1
    have g2 := D5.own.cell 2
    have g3 := D5.own.cell 3
    simp only [Tk.vals, List.getElem?_cons_zero, List.getElem?_cons_succ] at c0 c1 c2 c3 g0 g1 g2 g3
    clear D5
    go_wp2_with fail
    refine bodyPost_ret (v := .agg #[.int .i64 (1), .int .i64 ((r2 : Int)), .int .i64 ((r3 : Int)), .string ByteArray.empty]) (by simp [results, Tryz.results35, go_sem, c0, c1, c2, c3]; try rfl) rfl ⟨⟨1, (r2 : Int), (r3 : Int), ByteArray.empty⟩, at_ + 1 + 1 + 1 + 1, rfl, (show (ByteArray.empty : ByteArray).size ≤ 100 by decide), by omega, ((unhide HF) _ _ _ _).1, ((unhide HF) _ _ _ _).2⟩
  · have D2 := (unhide HDD) 2
    clear HDD
    go_wp2_with fail
    refine (l1Word_any bs len cap (at_ + 1 + 1) a _ D2.src (by omega)).mono ?_
    rintro e w3 ⟨⟨t, rfl, ht⟩, Sw3, Tw3⟩
    have D3 := D2.go Sw3 Tw3
    clear D2 Sw3 Tw3
    have s3 := D3.own.cell 3
    have y3 := D3.own.frozen 3
    simp only [Tk.vals, List.getElem?_cons_zero, List.getElem?_cons_succ] at s3
    have D4 := D3.set 3 (.string t) (t2 := ⟨2, (r2 : Int), 0, t⟩) rfl
    clear D3
    go_wp2_with fail
    refine (l1Next_any 24 bs len cap (at_ + 1 + 1 + 1) a _ D4.src (by decide) (by omega)).mono ?_
    rintro e w5 ⟨r5, rfl, hr5, Sw5, Tw5⟩
    have D5 := D4.go Sw5 Tw5
    clear D4 Sw5 Tw5
    by_cases e0 : r5 = 0
    · subst e0
      go_wp2_with fail
      refine (l1Next_any 6 bs len cap (at_ + 1 + 1 + 1 + 1) a _ D5.src (by decide) (by omega)).mono ?_
      rintro e w6 ⟨r6, rfl, hr6, Sw6, Tw6⟩
      have D6 := D5.go Sw6 Tw6
      clear D5 Sw6 Tw6
      have w16 : IntKind.i64.wrap ((1 : Int) + (r6 : Int)) = (1 : Int) + (r6 : Int) := IntWalk.i64_in _ ⟨by omega, by have := hr6 (by decide); omega⟩
      have D7 := D6.alloc (.cells #[.int .i64 0, .int .i64 7, .int .i64 ((1 : Int) + (r6 : Int))] 2)
      have HP := hide (l1Pick_any [0, 7, (1 : Int) + (r6 : Int)] w6.heap.size bs len cap (at_ + 1 + 1 + 1 + 1 + 1) a _ D7.src ⟨_, heap_alloc_new _ _, rfl⟩ (by have := D6.src.lt; omega) (by simp) (by simp) (by omega))
      clear D6
      go_wp2_with fail
      refine (unhide HP).mono ?_
      rintro e w8 ⟨⟨x, hx, rfl⟩, Sw8, Tw8⟩
      have D8 := D7.go Sw8 Tw8
      clear D7 Sw8 Tw8 HP hx
      have s0 := D8.own.cell 0
      have y0 := D8.own.frozen 0
      simp only [Tk.vals, List.getElem?_cons_zero, List.getElem?_cons_succ] at s0
      have D9 := D8.set 0 (.int .i64 x) (t2 := ⟨x, (r2 : Int), 0, t⟩) rfl
      clear D8
      have HF := hide (D9.fin)
      have c0 := D9.res.cell 0
      have c1 := D9.res.cell 1
      have c2 := D9.res.cell 2
      have c3 := D9.res.cell 3
      have z0 := D9.res.frozen 0
      have z1 := D9.res.frozen 1
      have z2 := D9.res.frozen 2
      have z3 := D9.res.frozen 3
      have g0 := D9.own.cell 0
      have g1 := D9.own.cell 1
      have g2 := D9.own.cell 2
      have g3 := D9.own.cell 3
      simp only [Tk.vals, List.getElem?_cons_zero, List.getElem?_cons_succ] at c0 c1 c2 c3 g0 g1 g2 g3
      clear D9
      go_wp2_with fail
      refine bodyPost_ret (v := .agg #[.int .i64 (x), .int .i64 ((r2 : Int)), .int .i64 (0), .string t]) (by simp [results, Tryz.results35, go_sem, c0, c1, c2, c3]; try rfl) rfl ⟨⟨x, (r2 : Int), 0, t⟩, at_ + 1 + 1 + 1 + 1 + 1 + 1, rfl, ht, by omega, ((unhide HF) _ _ _ _).1, ((unhide HF) _ _ _ _).2⟩
    by_cases e1 : r5 = 1
    · subst e1
      have D7 := D5.alloc (.cells #[.int .i64 1, .int .i64 (-1), .int .i64 1000000000000000, .int .i64 1000000000000001] 2)
      have HP := hide (l1Pick_any [1, -1, 1000000000000000, 1000000000000001] w5.heap.size bs len cap (at_ + 1 + 1 + 1 + 1) a _ D7.src ⟨_, heap_alloc_new _ _, rfl⟩ (by have := D5.src.lt; omega) (by simp) (by simp) (by omega))
      clear D5
      go_wp2_with fail
      refine (unhide HP).mono ?_
      rintro e w8 ⟨⟨x, hx, rfl⟩, Sw8, Tw8⟩
      have D8 := D7.go Sw8 Tw8
      clear D7 Sw8 Tw8 HP hx
      have s2 := D8.own.cell 2
      have y2 := D8.own.frozen 2
      simp only [Tk.vals, List.getElem?_cons_zero, List.getElem?_cons_succ] at s2
      have D9 := D8.set 2 (.int .i64 x) (t2 := ⟨2, (r2 : Int), x, t⟩) rfl
      clear D8
      have HF := hide (D9.fin)
      have c0 := D9.res.cell 0
      have c1 := D9.res.cell 1
      have c2 := D9.res.cell 2
      have c3 := D9.res.cell 3
      have z0 := D9.res.frozen 0
      have z1 := D9.res.frozen 1
      have z2 := D9.res.frozen 2
      have z3 := D9.res.frozen 3
      have g0 := D9.own.cell 0
      have g1 := D9.own.cell 1
      have g2 := D9.own.cell 2
      have g3 := D9.own.cell 3
      simp only [Tk.vals, List.getElem?_cons_zero, List.getElem?_cons_succ] at c0 c1 c2 c3 g0 g1 g2 g3
      clear D9
      go_wp2_with fail
      refine bodyPost_ret (v := .agg #[.int .i64 (2), .int .i64 ((r2 : Int)), .int .i64 (x), .string t]) (by simp [results, Tryz.results35, go_sem, c0, c1, c2, c3]; try rfl) rfl ⟨⟨2, (r2 : Int), x, t⟩, at_ + 1 + 1 + 1 + 1 + 1, rfl, ht, by omega, ((unhide HF) _ _ _ _).1, ((unhide HF) _ _ _ _).2⟩
    by_cases e2 : r5 = 2
    · subst e2
      have HN := hide (fun o => l1Next_any 5 bs len cap (at_ + 1 + 1 + 1 + 1) a (w5.alloc o) (D5.alloc o).src (by decide) (by omega))
      have HD := hide (fun o => D5.alloc o)
      have hlt5 := D5.src.lt
      clear D5
      go_wp2_with fail
      refine ((unhide HN) _).mono ?_
      rintro e w8 ⟨r8, rfl, hr8, Sw8, Tw8⟩
      have hr' : r8 < 5 := by have := hr8 (by decide); omega
      have O1 : Own w8 w5.heap.size 9 _ := ⟨_, (Tw8.block w5.heap.size (by simp) (by omega)).trans (heap_alloc_new _ _), rfl⟩
      have hc := O1.cell r8
      have D8 := ((unhide HD) _).go Sw8 Tw8
      clear O1 HN HD Sw8 Tw8 hr8
      have s3 := D8.own.cell 3
      have y3 := D8.own.frozen 3
      simp only [Tk.vals, List.getElem?_cons_zero, List.getElem?_cons_succ] at s3
      obtain rfl | rfl | rfl | rfl | rfl : r8 = 0 ∨ r8 = 1 ∨ r8 = 2 ∨ r8 = 3 ∨ r8 = 4 := by omega
      · simp only [List.getElem?_cons_zero, List.getElem?_cons_succ] at hc
        have D9 := D8.set 3 (.string ⟨#[]⟩) (t2 := ⟨2, (r2 : Int), 0, ⟨#[]⟩⟩) rfl
        clear D8
        have HF := hide (D9.fin)
        have c0 := D9.res.cell 0
        have c1 := D9.res.cell 1
        have c2 := D9.res.cell 2
        have c3 := D9.res.cell 3
        have z0 := D9.res.frozen 0
        have z1 := D9.res.frozen 1
        have z2 := D9.res.frozen 2
        have z3 := D9.res.frozen 3
        have g0 := D9.own.cell 0
        have g1 := D9.own.cell 1
        have g2 := D9.own.cell 2
        have g3 := D9.own.cell 3
        simp only [Tk.vals, List.getElem?_cons_zero, List.getElem?_cons_succ] at c0 c1 c2 c3 g0 g1 g2 g3
        clear D9
        go_wp2_with fail
        refine bodyPost_ret (v := .agg #[.int .i64 (2), .int .i64 ((r2 : Int)), .int .i64 (0), .string ⟨#[]⟩]) (by simp [results, Tryz.results35, go_sem, c0, c1, c2, c3]; try rfl) rfl ⟨⟨2, (r2 : Int), 0, ⟨#[]⟩⟩, at_ + 1 + 1 + 1 + 1 + 1, rfl, (show (⟨#[]⟩ : ByteArray).size ≤ 100 by decide), by omega, ((unhide HF) _ _ _ _).1, ((unhide HF) _ _ _ _).2⟩
      · simp only [List.getElem?_cons_zero, List.getElem?_cons_succ] at hc
        have D9 := D8.set 3 (.string ⟨#[65]⟩) (t2 := ⟨2, (r2 : Int), 0, ⟨#[65]⟩⟩) rfl
        clear D8
        have HF := hide (D9.fin)
        have c0 := D9.res.cell 0
        have c1 := D9.res.cell 1
        have c2 := D9.res.cell 2
        have c3 := D9.res.cell 3
        have z0 := D9.res.frozen 0
        have z1 := D9.res.frozen 1
        have z2 := D9.res.frozen 2
        have z3 := D9.res.frozen 3
        have g0 := D9.own.cell 0
        have g1 := D9.own.cell 1
        have g2 := D9.own.cell 2
        have g3 := D9.own.cell 3
        simp only [Tk.vals, List.getElem?_cons_zero, List.getElem?_cons_succ] at c0 c1 c2 c3 g0 g1 g2 g3
        clear D9
        go_wp2_with fail
        refine bodyPost_ret (v := .agg #[.int .i64 (2), .int .i64 ((r2 : Int)), .int .i64 (0), .string ⟨#[65]⟩]) (by simp [results, Tryz.results35, go_sem, c0, c1, c2, c3]; try rfl) rfl ⟨⟨2, (r2 : Int), 0, ⟨#[65]⟩⟩, at_ + 1 + 1 + 1 + 1 + 1, rfl, (show (⟨#[65]⟩ : ByteArray).size ≤ 100 by decide), by omega, ((unhide HF) _ _ _ _).1, ((unhide HF) _ _ _ _).2⟩
      · simp only [List.getElem?_cons_zero, List.getElem?_cons_succ] at hc
        have D9 := D8.set 3 (.string ⟨#[120, 32, 121]⟩) (t2 := ⟨2, (r2 : Int), 0, ⟨#[120, 32, 121]⟩⟩) rfl
        clear D8
        have HF := hide (D9.fin)
        have c0 := D9.res.cell 0
        have c1 := D9.res.cell 1
        have c2 := D9.res.cell 2
        have c3 := D9.res.cell 3
        have z0 := D9.res.frozen 0
        have z1 := D9.res.frozen 1
        have z2 := D9.res.frozen 2
        have z3 := D9.res.frozen 3
        have g0 := D9.own.cell 0
        have g1 := D9.own.cell 1
        have g2 := D9.own.cell 2
        have g3 := D9.own.cell 3
        simp only [Tk.vals, List.getElem?_cons_zero, List.getElem?_cons_succ] at c0 c1 c2 c3 g0 g1 g2 g3
        clear D9
        go_wp2_with fail
        refine bodyPost_ret (v := .agg #[.int .i64 (2), .int .i64 ((r2 : Int)), .int .i64 (0), .string ⟨#[120, 32, 121]⟩]) (by simp [results, Tryz.results35, go_sem, c0, c1, c2, c3]; try rfl) rfl ⟨⟨2, (r2 : Int), 0, ⟨#[120, 32, 121]⟩⟩, at_ + 1 + 1 + 1 + 1 + 1, rfl, (show (⟨#[120, 32, 121]⟩ : ByteArray).size ≤ 100 by decide), by omega, ((unhide HF) _ _ _ _).1, ((unhide HF) _ _ _ _).2⟩
      · simp only [List.getElem?_cons_zero, List.getElem?_cons_succ] at hc
        have D9 := D8.set 3 (.string ⟨#[10]⟩) (t2 := ⟨2, (r2 : Int), 0, ⟨#[10]⟩⟩) rfl
        clear D8
        have HF := hide (D9.fin)
        have c0 := D9.res.cell 0
        have c1 := D9.res.cell 1
        have c2 := D9.res.cell 2
        have c3 := D9.res.cell 3
        have z0 := D9.res.frozen 0
        have z1 := D9.res.frozen 1
        have z2 := D9.res.frozen 2
        have z3 := D9.res.frozen 3
        have g0 := D9.own.cell 0
        have g1 := D9.own.cell 1
        have g2 := D9.own.cell 2
        have g3 := D9.own.cell 3
        simp only [Tk.vals, List.getElem?_cons_zero, List.getElem?_cons_succ] at c0 c1 c2 c3 g0 g1 g2 g3
        clear D9
        go_wp2_with fail
        refine bodyPost_ret (v := .agg #[.int .i64 (2), .int .i64 ((r2 : Int)), .int .i64 (0), .string ⟨#[10]⟩]) (by simp [results, Tryz.results35, go_sem, c0, c1, c2, c3]; try rfl) rfl ⟨⟨2, (r2 : Int), 0, ⟨#[10]⟩⟩, at_ + 1 + 1 + 1 + 1 + 1, rfl, (show (⟨#[10]⟩ : ByteArray).size ≤ 100 by decide), by omega, ((unhide HF) _ _ _ _).1, ((unhide HF) _ _ _ _).2⟩
      · simp only [List.getElem?_cons_zero, List.getElem?_cons_succ] at hc
        have D9 := D8.set 3 (.string ⟨#[33]⟩) (t2 := ⟨2, (r2 : Int), 0, ⟨#[33]⟩⟩) rfl
        clear D8
        have HF := hide (D9.fin)
        have c0 := D9.res.cell 0
        have c1 := D9.res.cell 1
        have c2 := D9.res.cell 2
        have c3 := D9.res.cell 3
        have z0 := D9.res.frozen 0
        have z1 := D9.res.frozen 1
        have z2 := D9.res.frozen 2
        have z3 := D9.res.frozen 3
        have g0 := D9.own.cell 0
        have g1 := D9.own.cell 1
        have g2 := D9.own.cell 2
        have g3 := D9.own.cell 3
        simp only [Tk.vals, List.getElem?_cons_zero, List.getElem?_cons_succ] at c0 c1 c2 c3 g0 g1 g2 g3
        clear D9
        go_wp2_with fail
        refine bodyPost_ret (v := .agg #[.int .i64 (2), .int .i64 ((r2 : Int)), .int .i64 (0), .string ⟨#[33]⟩]) (by simp [results, Tryz.results35, go_sem, c0, c1, c2, c3]; try rfl) rfl ⟨⟨2, (r2 : Int), 0, ⟨#[33]⟩⟩, at_ + 1 + 1 + 1 + 1 + 1, rfl, (show (⟨#[33]⟩ : ByteArray).size ≤ 100 by decide), by omega, ((unhide HF) _ _ _ _).1, ((unhide HF) _ _ _ _).2⟩
    have b0 : ((r5 : Int) == 0) = false := by rw [beq_eq_false_iff_ne]; omega
    have b1 : ((r5 : Int) == 1) = false := by rw [beq_eq_false_iff_ne]; omega
    have b2 : ((r5 : Int) == 2) = false := by rw [beq_eq_false_iff_ne]; omega
    have HF := hide (D5.fin)
    have c0 := D5.res.cell 0
    have c1 := D5.res.cell 1
    have c2 := D5.res.cell 2
    have c3 := D5.res.cell 3
    have z0 := D5.res.frozen 0
    have z1 := D5.res.frozen 1
    have z2 := D5.res.frozen 2
    have z3 := D5.res.frozen 3
    have g0 := D5.own.cell 0
    have g1 := D5.own.cell 1
    have g2 := D5.own.cell 2
    have g3 := D5.own.cell 3
    simp only [Tk.vals, List.getElem?_cons_zero, List.getElem?_cons_succ] at c0 c1 c2 c3 g0 g1 g2 g3
    clear D5
    go_wp2_with fail
    refine bodyPost_ret (v := .agg #[.int .i64 (2), .int .i64 ((r2 : Int)), .int .i64 (0), .string t]) (by simp [results, Tryz.results35, go_sem, c0, c1, c2, c3]; try rfl) rfl ⟨⟨2, (r2 : Int), 0, t⟩, at_ + 1 + 1 + 1 + 1, rfl, ht, by omega, ((unhide HF) _ _ _ _).1, ((unhide HF) _ _ _ _).2⟩
  · have D2 := (unhide HDD) 3
    clear HDD
    have HN := hide (fun o => l1Next_any 5 bs len cap (at_ + 1 + 1) a _ (D2.alloc o).src (by decide) (by omega))
    have HD := hide (fun o => D2.alloc o)
    have hlt2 := D2.src.lt
    have hgt2 := D2.tch.size
    clear D2
    go_wp2_with fail
    refine ((unhide HN) _).mono ?_
    rintro e w3 ⟨r3, rfl, hr3, Sw3, Tw3⟩
    have hr' : r3 < 5 := by have := hr3 (by decide); omega
    have O1 : Own w3 (w2.heap.size + 1) 9 _ := ⟨_, (Tw3.block (w2.heap.size + 1) (by simp) (by simp at hlt2; have := hbs2; omega)).trans (alloc2_new _ _ _), rfl⟩
    have hc := O1.cell r3
    have D3 := ((unhide HD) _).go Sw3 Tw3
    clear O1 HN HD Sw3 Tw3 hr3
    have s3 := D3.own.cell 3
    have y3 := D3.own.frozen 3
    simp only [Tk.vals, List.getElem?_cons_zero, List.getElem?_cons_succ] at s3
    obtain ⟨t, ht, hct⟩ : ∃ t : ByteArray, t.size ≤ 100 ∧ w3.cell? ⟨w2.heap.size + 1, r3, none⟩ = some (.string t) := by
      obtain rfl | rfl | rfl | rfl | rfl : r3 = 0 ∨ r3 = 1 ∨ r3 = 2 ∨ r3 = 3 ∨ r3 = 4 := by omega
      all_goals exact ⟨_, by decide, hc⟩
    have hrz : (r3 : Int) < 5 := by omega
    clear hc
    have D4 := D3.set 3 (.string t) (t2 := ⟨3, (r2 : Int), 0, t⟩) rfl
    clear D3
    go_wp2_with fail
    refine (l1Next_any 24 bs len cap (at_ + 1 + 1 + 1) a _ D4.src (by decide) (by omega)).mono ?_
    rintro e w5 ⟨r5, rfl, hr5, Sw5, Tw5⟩
    have D5 := D4.go Sw5 Tw5
    clear D4 Sw5 Tw5
    by_cases e0 : r5 = 0
    · subst e0
      go_wp2_with fail
      refine (l1Next_any 6 bs len cap (at_ + 1 + 1 + 1 + 1) a _ D5.src (by decide) (by omega)).mono ?_
      rintro e w6 ⟨r6, rfl, hr6, Sw6, Tw6⟩
      have D6 := D5.go Sw6 Tw6
      clear D5 Sw6 Tw6
      have w16 : IntKind.i64.wrap ((1 : Int) + (r6 : Int)) = (1 : Int) + (r6 : Int) := IntWalk.i64_in _ ⟨by omega, by have := hr6 (by decide); omega⟩
      have D7 := D6.alloc (.cells #[.int .i64 0, .int .i64 7, .int .i64 ((1 : Int) + (r6 : Int))] 2)
      have HP := hide (l1Pick_any [0, 7, (1 : Int) + (r6 : Int)] w6.heap.size bs len cap (at_ + 1 + 1 + 1 + 1 + 1) a _ D7.src ⟨_, heap_alloc_new _ _, rfl⟩ (by have := D6.src.lt; omega) (by simp) (by simp) (by omega))
      clear D6
      go_wp2_with fail
      refine (unhide HP).mono ?_
      rintro e w8 ⟨⟨x, hx, rfl⟩, Sw8, Tw8⟩
      have D8 := D7.go Sw8 Tw8
      clear D7 Sw8 Tw8 HP hx
      have s0 := D8.own.cell 0
      have y0 := D8.own.frozen 0
      simp only [Tk.vals, List.getElem?_cons_zero, List.getElem?_cons_succ] at s0
      have D9 := D8.set 0 (.int .i64 x) (t2 := ⟨x, (r2 : Int), 0, t⟩) rfl
      clear D8
      have HF := hide (D9.fin)
      have c0 := D9.res.cell 0
      have c1 := D9.res.cell 1
      have c2 := D9.res.cell 2
      have c3 := D9.res.cell 3
      have z0 := D9.res.frozen 0
      have z1 := D9.res.frozen 1
      have z2 := D9.res.frozen 2
      have z3 := D9.res.frozen 3
      have g0 := D9.own.cell 0
      have g1 := D9.own.cell 1
      have g2 := D9.own.cell 2
      have g3 := D9.own.cell 3
      simp only [Tk.vals, List.getElem?_cons_zero, List.getElem?_cons_succ] at c0 c1 c2 c3 g0 g1 g2 g3
      clear D9
      go_wp2_with fail
      refine bodyPost_ret (v := .agg #[.int .i64 (x), .int .i64 ((r2 : Int)), .int .i64 (0), .string t]) (by simp [results, Tryz.results35, go_sem, c0, c1, c2, c3]; try rfl) rfl ⟨⟨x, (r2 : Int), 0, t⟩, at_ + 1 + 1 + 1 + 1 + 1 + 1, rfl, ht, by omega, ((unhide HF) _ _ _ _).1, ((unhide HF) _ _ _ _).2⟩
    by_cases e1 : r5 = 1
    · subst e1
      have D7 := D5.alloc (.cells #[.int .i64 1, .int .i64 (-1), .int .i64 1000000000000000, .int .i64 1000000000000001] 2)
      have HP := hide (l1Pick_any [1, -1, 1000000000000000, 1000000000000001] w5.heap.size bs len cap (at_ + 1 + 1 + 1 + 1) a _ D7.src ⟨_, heap_alloc_new _ _, rfl⟩ (by have := D5.src.lt; omega) (by simp) (by simp) (by omega))
      clear D5
      go_wp2_with fail
      refine (unhide HP).mono ?_
      rintro e w8 ⟨⟨x, hx, rfl⟩, Sw8, Tw8⟩
      have D8 := D7.go Sw8 Tw8
      clear D7 Sw8 Tw8 HP hx
      have s2 := D8.own.cell 2
      have y2 := D8.own.frozen 2
      simp only [Tk.vals, List.getElem?_cons_zero, List.getElem?_cons_succ] at s2
      have D9 := D8.set 2 (.int .i64 x) (t2 := ⟨3, (r2 : Int), x, t⟩) rfl
      clear D8
      have HF := hide (D9.fin)
      have c0 := D9.res.cell 0
      have c1 := D9.res.cell 1
      have c2 := D9.res.cell 2
      have c3 := D9.res.cell 3
      have z0 := D9.res.frozen 0
      have z1 := D9.res.frozen 1
      have z2 := D9.res.frozen 2
      have z3 := D9.res.frozen 3
      have g0 := D9.own.cell 0
      have g1 := D9.own.cell 1
      have g2 := D9.own.cell 2
      have g3 := D9.own.cell 3
      simp only [Tk.vals, List.getElem?_cons_zero, List.getElem?_cons_succ] at c0 c1 c2 c3 g0 g1 g2 g3
      clear D9
      go_wp2_with fail
      refine bodyPost_ret (v := .agg #[.int .i64 (3), .int .i64 ((r2 : Int)), .int .i64 (x), .string t]) (by simp [results, Tryz.results35, go_sem, c0, c1, c2, c3]; try rfl) rfl ⟨⟨3, (r2 : Int), x, t⟩, at_ + 1 + 1 + 1 + 1 + 1, rfl, ht, by omega, ((unhide HF) _ _ _ _).1, ((unhide HF) _ _ _ _).2⟩
    by_cases e2 : r5 = 2
    · subst e2
      have HN := hide (fun o => l1Next_any 5 bs len cap (at_ + 1 + 1 + 1 + 1) a (w5.alloc o) (D5.alloc o).src (by decide) (by omega))
      have HD := hide (fun o => D5.alloc o)
      have hlt5 := D5.src.lt
      clear D5
      go_wp2_with fail
      refine ((unhide HN) _).mono ?_
      rintro e w8 ⟨r8, rfl, hr8, Sw8, Tw8⟩
      have hr' : r8 < 5 := by have := hr8 (by decide); omega
      have O1 : Own w8 w5.heap.size 9 _ := ⟨_, (Tw8.block w5.heap.size (by simp) (by omega)).trans (heap_alloc_new _ _), rfl⟩
      have hc := O1.cell r8
      have D8 := ((unhide HD) _).go Sw8 Tw8
      clear O1 HN HD Sw8 Tw8 hr8
      have s3 := D8.own.cell 3
      have y3 := D8.own.frozen 3
      simp only [Tk.vals, List.getElem?_cons_zero, List.getElem?_cons_succ] at s3
      obtain rfl | rfl | rfl | rfl | rfl : r8 = 0 ∨ r8 = 1 ∨ r8 = 2 ∨ r8 = 3 ∨ r8 = 4 := by omega
      · simp only [List.getElem?_cons_zero, List.getElem?_cons_succ] at hc
        have D9 := D8.set 3 (.string ⟨#[]⟩) (t2 := ⟨3, (r2 : Int), 0, ⟨#[]⟩⟩) rfl
        clear D8
        have HF := hide (D9.fin)
        have c0 := D9.res.cell 0
        have c1 := D9.res.cell 1
        have c2 := D9.res.cell 2
        have c3 := D9.res.cell 3
        have z0 := D9.res.frozen 0
        have z1 := D9.res.frozen 1
        have z2 := D9.res.frozen 2
        have z3 := D9.res.frozen 3
        have g0 := D9.own.cell 0
        have g1 := D9.own.cell 1
        have g2 := D9.own.cell 2
        have g3 := D9.own.cell 3
        simp only [Tk.vals, List.getElem?_cons_zero, List.getElem?_cons_succ] at c0 c1 c2 c3 g0 g1 g2 g3
        clear D9
        go_wp2_with fail
        refine bodyPost_ret (v := .agg #[.int .i64 (3), .int .i64 ((r2 : Int)), .int .i64 (0), .string ⟨#[]⟩]) (by simp [results, Tryz.results35, go_sem, c0, c1, c2, c3]; try rfl) rfl ⟨⟨3, (r2 : Int), 0, ⟨#[]⟩⟩, at_ + 1 + 1 + 1 + 1 + 1, rfl, (show (⟨#[]⟩ : ByteArray).size ≤ 100 by decide), by omega, ((unhide HF) _ _ _ _).1, ((unhide HF) _ _ _ _).2⟩
      · simp only [List.getElem?_cons_zero, List.getElem?_cons_succ] at hc
        have D9 := D8.set 3 (.string ⟨#[65]⟩) (t2 := ⟨3, (r2 : Int), 0, ⟨#[65]⟩⟩) rfl
        clear D8
        have HF := hide (D9.fin)
        have c0 := D9.res.cell 0
        have c1 := D9.res.cell 1
        have c2 := D9.res.cell 2
        have c3 := D9.res.cell 3
        have z0 := D9.res.frozen 0
        have z1 := D9.res.frozen 1
        have z2 := D9.res.frozen 2
        have z3 := D9.res.frozen 3
        have g0 := D9.own.cell 0
        have g1 := D9.own.cell 1
        have g2 := D9.own.cell 2
        have g3 := D9.own.cell 3
        simp only [Tk.vals, List.getElem?_cons_zero, List.getElem?_cons_succ] at c0 c1 c2 c3 g0 g1 g2 g3
        clear D9
        go_wp2_with fail
        refine bodyPost_ret (v := .agg #[.int .i64 (3), .int .i64 ((r2 : Int)), .int .i64 (0), .string ⟨#[65]⟩]) (by simp [results, Tryz.results35, go_sem, c0, c1, c2, c3]; try rfl) rfl ⟨⟨3, (r2 : Int), 0, ⟨#[65]⟩⟩, at_ + 1 + 1 + 1 + 1 + 1, rfl, (show (⟨#[65]⟩ : ByteArray).size ≤ 100 by decide), by omega, ((unhide HF) _ _ _ _).1, ((unhide HF) _ _ _ _).2⟩
      · simp only [List.getElem?_cons_zero, List.getElem?_cons_succ] at hc
        have D9 := D8.set 3 (.string ⟨#[120, 32, 121]⟩) (t2 := ⟨3, (r2 : Int), 0, ⟨#[120, 32, 121]⟩⟩) rfl
        clear D8
        have HF := hide (D9.fin)
        have c0 := D9.res.cell 0
        have c1 := D9.res.cell 1
        have c2 := D9.res.cell 2
        have c3 := D9.res.cell 3
        have z0 := D9.res.frozen 0
        have z1 := D9.res.frozen 1
        have z2 := D9.res.frozen 2
        have z3 := D9.res.frozen 3
        have g0 := D9.own.cell 0
        have g1 := D9.own.cell 1
        have g2 := D9.own.cell 2
        have g3 := D9.own.cell 3
        simp only [Tk.vals, List.getElem?_cons_zero, List.getElem?_cons_succ] at c0 c1 c2 c3 g0 g1 g2 g3
        clear D9
        go_wp2_with fail
        refine bodyPost_ret (v := .agg #[.int .i64 (3), .int .i64 ((r2 : Int)), .int .i64 (0), .string ⟨#[120, 32, 121]⟩]) (by simp [results, Tryz.results35, go_sem, c0, c1, c2, c3]; try rfl) rfl ⟨⟨3, (r2 : Int), 0, ⟨#[120, 32, 121]⟩⟩, at_ + 1 + 1 + 1 + 1 + 1, rfl, (show (⟨#[120, 32, 121]⟩ : ByteArray).size ≤ 100 by decide), by omega, ((unhide HF) _ _ _ _).1, ((unhide HF) _ _ _ _).2⟩
      · simp only [List.getElem?_cons_zero, List.getElem?_cons_succ] at hc
        have D9 := D8.set 3 (.string ⟨#[10]⟩) (t2 := ⟨3, (r2 : Int), 0, ⟨#[10]⟩⟩) rfl
        clear D8
        have HF := hide (D9.fin)
        have c0 := D9.res.cell 0
        have c1 := D9.res.cell 1
        have c2 := D9.res.cell 2
        have c3 := D9.res.cell 3
        have z0 := D9.res.frozen 0
        have z1 := D9.res.frozen 1
        have z2 := D9.res.frozen 2
        have z3 := D9.res.frozen 3
        have g0 := D9.own.cell 0
        have g1 := D9.own.cell 1
        have g2 := D9.own.cell 2
        have g3 := D9.own.cell 3
        simp only [Tk.vals, List.getElem?_cons_zero, List.getElem?_cons_succ] at c0 c1 c2 c3 g0 g1 g2 g3
        clear D9
        go_wp2_with fail
        refine bodyPost_ret (v := .agg #[.int .i64 (3), .int .i64 ((r2 : Int)), .int .i64 (0), .string ⟨#[10]⟩]) (by simp [results, Tryz.results35, go_sem, c0, c1, c2, c3]; try rfl) rfl ⟨⟨3, (r2 : Int), 0, ⟨#[10]⟩⟩, at_ + 1 + 1 + 1 + 1 + 1, rfl, (show (⟨#[10]⟩ : ByteArray).size ≤ 100 by decide), by omega, ((unhide HF) _ _ _ _).1, ((unhide HF) _ _ _ _).2⟩
      · simp only [List.getElem?_cons_zero, List.getElem?_cons_succ] at hc
        have D9 := D8.set 3 (.string ⟨#[33]⟩) (t2 := ⟨3, (r2 : Int), 0, ⟨#[33]⟩⟩) rfl
        clear D8
        have HF := hide (D9.fin)
        have c0 := D9.res.cell 0
        have c1 := D9.res.cell 1
        have c2 := D9.res.cell 2
        have c3 := D9.res.cell 3
        have z0 := D9.res.frozen 0
        have z1 := D9.res.frozen 1
        have z2 := D9.res.frozen 2
        have z3 := D9.res.frozen 3
        have g0 := D9.own.cell 0
        have g1 := D9.own.cell 1
        have g2 := D9.own.cell 2
        have g3 := D9.own.cell 3
        simp only [Tk.vals, List.getElem?_cons_zero, List.getElem?_cons_succ] at c0 c1 c2 c3 g0 g1 g2 g3
        clear D9
        go_wp2_with fail
        refine bodyPost_ret (v := .agg #[.int .i64 (3), .int .i64 ((r2 : Int)), .int .i64 (0), .string ⟨#[33]⟩]) (by simp [results, Tryz.results35, go_sem, c0, c1, c2, c3]; try rfl) rfl ⟨⟨3, (r2 : Int), 0, ⟨#[33]⟩⟩, at_ + 1 + 1 + 1 + 1 + 1, rfl, (show (⟨#[33]⟩ : ByteArray).size ≤ 100 by decide), by omega, ((unhide HF) _ _ _ _).1, ((unhide HF) _ _ _ _).2⟩
    have b0 : ((r5 : Int) == 0) = false := by rw [beq_eq_false_iff_ne]; omega
    have b1 : ((r5 : Int) == 1) = false := by rw [beq_eq_false_iff_ne]; omega
    have b2 : ((r5 : Int) == 2) = false := by rw [beq_eq_false_iff_ne]; omega
    have HF := hide (D5.fin)
    have c0 := D5.res.cell 0
    have c1 := D5.res.cell 1
    have c2 := D5.res.cell 2
    have c3 := D5.res.cell 3
    have z0 := D5.res.frozen 0
    have z1 := D5.res.frozen 1
    have z2 := D5.res.frozen 2
    have z3 := D5.res.frozen 3
    have g0 := D5.own.cell 0
    have g1 := D5.own.cell 1
    have g2 := D5.own.cell 2
    have g3 := D5.own.cell 3
    simp only [Tk.vals, List.getElem?_cons_zero, List.getElem?_cons_succ] at c0 c1 c2 c3 g0 g1 g2 g3
    clear D5
    go_wp2_with fail
    refine bodyPost_ret (v := .agg #[.int .i64 (3), .int .i64 ((r2 : Int)), .int .i64 (0), .string t]) (by simp [results, Tryz.results35, go_sem, c0, c1, c2, c3]; try rfl) rfl ⟨⟨3, (r2 : Int), 0, t⟩, at_ + 1 + 1 + 1 + 1, rfl, ht, by omega, ((unhide HF) _ _ _ _).1, ((unhide HF) _ _ _ _).2⟩
  · have D2 := (unhide HDD) 4
    clear HDD
    have HN := hide (fun o => l1Next_any 5 bs len cap (at_ + 1 + 1) a _ (D2.alloc o).src (by decide) (by omega))
    have HD := hide (fun o => D2.alloc o)
    have hlt2 := D2.src.lt
    have hgt2 := D2.tch.size
    clear D2
    go_wp2_with fail
    refine ((unhide HN) _).mono ?_
    rintro e w3 ⟨r3, rfl, hr3, Sw3, Tw3⟩
    have hr' : r3 < 5 := by have := hr3 (by decide); omega
    have O1 : Own w3 (w2.heap.size + 1) 9 _ := ⟨_, (Tw3.block (w2.heap.size + 1) (by simp) (by simp at hlt2; have := hbs2; omega)).trans (alloc2_new _ _ _), rfl⟩
    have hc := O1.cell r3
    have D3 := ((unhide HD) _).go Sw3 Tw3
    clear O1 HN HD Sw3 Tw3 hr3
    have s3 := D3.own.cell 3
    have y3 := D3.own.frozen 3
    simp only [Tk.vals, List.getElem?_cons_zero, List.getElem?_cons_succ] at s3
    obtain ⟨t, ht, hct⟩ : ∃ t : ByteArray, t.size ≤ 100 ∧ w3.cell? ⟨w2.heap.size + 1, r3, none⟩ = some (.string t) := by
      obtain rfl | rfl | rfl | rfl | rfl : r3 = 0 ∨ r3 = 1 ∨ r3 = 2 ∨ r3 = 3 ∨ r3 = 4 := by omega
      all_goals exact ⟨_, by decide, hc⟩
    have hrz : (r3 : Int) < 5 := by omega
    clear hc
    have D4 := D3.set 3 (.string t) (t2 := ⟨4, (r2 : Int), 0, t⟩) rfl
    clear D3
    go_wp2_with fail
    refine (l1Next_any 24 bs len cap (at_ + 1 + 1 + 1) a _ D4.src (by decide) (by omega)).mono ?_
    rintro e w5 ⟨r5, rfl, hr5, Sw5, Tw5⟩
    have D5 := D4.go Sw5 Tw5
    clear D4 Sw5 Tw5
    by_cases e0 : r5 = 0
    · subst e0
      go_wp2_with fail
      refine (l1Next_any 6 bs len cap (at_ + 1 + 1 + 1 + 1) a _ D5.src (by decide) (by omega)).mono ?_
      rintro e w6 ⟨r6, rfl, hr6, Sw6, Tw6⟩
      have D6 := D5.go Sw6 Tw6
      clear D5 Sw6 Tw6
      have w16 : IntKind.i64.wrap ((1 : Int) + (r6 : Int)) = (1 : Int) + (r6 : Int) := IntWalk.i64_in _ ⟨by omega, by have := hr6 (by decide); omega⟩
      have D7 := D6.alloc (.cells #[.int .i64 0, .int .i64 7, .int .i64 ((1 : Int) + (r6 : Int))] 2)
      have HP := hide (l1Pick_any [0, 7, (1 : Int) + (r6 : Int)] w6.heap.size bs len cap (at_ + 1 + 1 + 1 + 1 + 1) a _ D7.src ⟨_, heap_alloc_new _ _, rfl⟩ (by have := D6.src.lt; omega) (by simp) (by simp) (by omega))
      clear D6
      go_wp2_with fail
      refine (unhide HP).mono ?_
      rintro e w8 ⟨⟨x, hx, rfl⟩, Sw8, Tw8⟩
      have D8 := D7.go Sw8 Tw8
      clear D7 Sw8 Tw8 HP hx
      have s0 := D8.own.cell 0
      have y0 := D8.own.frozen 0
      simp only [Tk.vals, List.getElem?_cons_zero, List.getElem?_cons_succ] at s0
      have D9 := D8.set 0 (.int .i64 x) (t2 := ⟨x, (r2 : Int), 0, t⟩) rfl
      clear D8
      have HF := hide (D9.fin)
      have c0 := D9.res.cell 0
      have c1 := D9.res.cell 1
      have c2 := D9.res.cell 2
      have c3 := D9.res.cell 3
      have z0 := D9.res.frozen 0
      have z1 := D9.res.frozen 1
      have z2 := D9.res.frozen 2
      have z3 := D9.res.frozen 3
      have g0 := D9.own.cell 0
      have g1 := D9.own.cell 1
      have g2 := D9.own.cell 2
      have g3 := D9.own.cell 3
      simp only [Tk.vals, List.getElem?_cons_zero, List.getElem?_cons_succ] at c0 c1 c2 c3 g0 g1 g2 g3
      clear D9
      go_wp2_with fail
      refine bodyPost_ret (v := .agg #[.int .i64 (x), .int .i64 ((r2 : Int)), .int .i64 (0), .string t]) (by simp [results, Tryz.results35, go_sem, c0, c1, c2, c3]; try rfl) rfl ⟨⟨x, (r2 : Int), 0, t⟩, at_ + 1 + 1 + 1 + 1 + 1 + 1, rfl, ht, by omega, ((unhide HF) _ _ _ _).1, ((unhide HF) _ _ _ _).2⟩
    by_cases e1 : r5 = 1
    · subst e1
      have D7 := D5.alloc (.cells #[.int .i64 1, .int .i64 (-1), .int .i64 1000000000000000, .int .i64 1000000000000001] 2)
      have HP := hide (l1Pick_any [1, -1, 1000000000000000, 1000000000000001] w5.heap.size bs len cap (at_ + 1 + 1 + 1 + 1) a _ D7.src ⟨_, heap_alloc_new _ _, rfl⟩ (by have := D5.src.lt; omega) (by simp) (by simp) (by omega))
      clear D5
      go_wp2_with fail
      refine (unhide HP).mono ?_
      rintro e w8 ⟨⟨x, hx, rfl⟩, Sw8, Tw8⟩
      have D8 := D7.go Sw8 Tw8
      clear D7 Sw8 Tw8 HP hx
      have s2 := D8.own.cell 2
      have y2 := D8.own.frozen 2
      simp only [Tk.vals, List.getElem?_cons_zero, List.getElem?_cons_succ] at s2
      have D9 := D8.set 2 (.int .i64 x) (t2 := ⟨4, (r2 : Int), x, t⟩) rfl
      clear D8
      have HF := hide (D9.fin)
      have c0 := D9.res.cell 0
      have c1 := D9.res.cell 1
      have c2 := D9.res.cell 2
      have c3 := D9.res.cell 3
      have z0 := D9.res.frozen 0
      have z1 := D9.res.frozen 1
      have z2 := D9.res.frozen 2
      have z3 := D9.res.frozen 3
      have g0 := D9.own.cell 0
      have g1 := D9.own.cell 1
      have g2 := D9.own.cell 2
      have g3 := D9.own.cell 3
      simp only [Tk.vals, List.getElem?_cons_zero, List.getElem?_cons_succ] at c0 c1 c2 c3 g0 g1 g2 g3
      clear D9
      go_wp2_with fail
      refine bodyPost_ret (v := .agg #[.int .i64 (4), .int .i64 ((r2 : Int)), .int .i64 (x), .string t]) (by simp [results, Tryz.results35, go_sem, c0, c1, c2, c3]; try rfl) rfl ⟨⟨4, (r2 : Int), x, t⟩, at_ + 1 + 1 + 1 + 1 + 1, rfl, ht, by omega, ((unhide HF) _ _ _ _).1, ((unhide HF) _ _ _ _).2⟩
    by_cases e2 : r5 = 2
    · subst e2
      have HN := hide (fun o => l1Next_any 5 bs len cap (at_ + 1 + 1 + 1 + 1) a (w5.alloc o) (D5.alloc o).src (by decide) (by omega))
      have HD := hide (fun o => D5.alloc o)
      have hlt5 := D5.src.lt
      clear D5
      go_wp2_with fail
      refine ((unhide HN) _).mono ?_
      rintro e w8 ⟨r8, rfl, hr8, Sw8, Tw8⟩
      have hr' : r8 < 5 := by have := hr8 (by decide); omega
      have O1 : Own w8 w5.heap.size 9 _ := ⟨_, (Tw8.block w5.heap.size (by simp) (by omega)).trans (heap_alloc_new _ _), rfl⟩
      have hc := O1.cell r8
      have D8 := ((unhide HD) _).go Sw8 Tw8
      clear O1 HN HD Sw8 Tw8 hr8
      have s3 := D8.own.cell 3
      have y3 := D8.own.frozen 3
      simp only [Tk.vals, List.getElem?_cons_zero, List.getElem?_cons_succ] at s3
      obtain rfl | rfl | rfl | rfl | rfl : r8 = 0 ∨ r8 = 1 ∨ r8 = 2 ∨ r8 = 3 ∨ r8 = 4 := by omega
      · simp only [List.getElem?_cons_zero, List.getElem?_cons_succ] at hc
        have D9 := D8.set 3 (.string ⟨#[]⟩) (t2 := ⟨4, (r2 : Int), 0, ⟨#[]⟩⟩) rfl
        clear D8
        have HF := hide (D9.fin)
        have c0 := D9.res.cell 0
        have c1 := D9.res.cell 1
        have c2 := D9.res.cell 2
        have c3 := D9.res.cell 3
        have z0 := D9.res.frozen 0
        have z1 := D9.res.frozen 1
        have z2 := D9.res.frozen 2
        have z3 := D9.res.frozen 3
        have g0 := D9.own.cell 0
        have g1 := D9.own.cell 1
        have g2 := D9.own.cell 2
        have g3 := D9.own.cell 3
        simp only [Tk.vals, List.getElem?_cons_zero, List.getElem?_cons_succ] at c0 c1 c2 c3 g0 g1 g2 g3
        clear D9
        go_wp2_with fail
        refine bodyPost_ret (v := .agg #[.int .i64 (4), .int .i64 ((r2 : Int)), .int .i64 (0), .string ⟨#[]⟩]) (by simp [results, Tryz.results35, go_sem, c0, c1, c2, c3]; try rfl) rfl ⟨⟨4, (r2 : Int), 0, ⟨#[]⟩⟩, at_ + 1 + 1 + 1 + 1 + 1, rfl, (show (⟨#[]⟩ : ByteArray).size ≤ 100 by decide), by omega, ((unhide HF) _ _ _ _).1, ((unhide HF) _ _ _ _).2⟩
      · simp only [List.getElem?_cons_zero, List.getElem?_cons_succ] at hc
        have D9 := D8.set 3 (.string ⟨#[65]⟩) (t2 := ⟨4, (r2 : Int), 0, ⟨#[65]⟩⟩) rfl
        clear D8
        have HF := hide (D9.fin)
        have c0 := D9.res.cell 0
        have c1 := D9.res.cell 1
        have c2 := D9.res.cell 2
        have c3 := D9.res.cell 3
        have z0 := D9.res.frozen 0
        have z1 := D9.res.frozen 1
        have z2 := D9.res.frozen 2
        have z3 := D9.res.frozen 3
        have g0 := D9.own.cell 0
        have g1 := D9.own.cell 1
        have g2 := D9.own.cell 2
        have g3 := D9.own.cell 3
        simp only [Tk.vals, List.getElem?_cons_zero, List.getElem?_cons_succ] at c0 c1 c2 c3 g0 g1 g2 g3
        clear D9
        go_wp2_with fail
        refine bodyPost_ret (v := .agg #[.int .i64 (4), .int .i64 ((r2 : Int)), .int .i64 (0), .string ⟨#[65]⟩]) (by simp [results, Tryz.results35, go_sem, c0, c1, c2, c3]; try rfl) rfl ⟨⟨4, (r2 : Int), 0, ⟨#[65]⟩⟩, at_ + 1 + 1 + 1 + 1 + 1, rfl, (show (⟨#[65]⟩ : ByteArray).size ≤ 100 by decide), by omega, ((unhide HF) _ _ _ _).1, ((unhide HF) _ _ _ _).2⟩
      · simp only [List.getElem?_cons_zero, List.getElem?_cons_succ] at hc
        have D9 := D8.set 3 (.string ⟨#[120, 32, 121]⟩) (t2 := ⟨4, (r2 : Int), 0, ⟨#[120, 32, 121]⟩⟩) rfl
        clear D8
        have HF := hide (D9.fin)
        have c0 := D9.res.cell 0
        have c1 := D9.res.cell 1
        have c2 := D9.res.cell 2
        have c3 := D9.res.cell 3
        have z0 := D9.res.frozen 0
        have z1 := D9.res.frozen 1
        have z2 := D9.res.frozen 2
        have z3 := D9.res.frozen 3
        have g0 := D9.own.cell 0
        have g1 := D9.own.cell 1
        have g2 := D9.own.cell 2
        have g3 := D9.own.cell 3
        simp only [Tk.vals, List.getElem?_cons_zero, List.getElem?_cons_succ] at c0 c1 c2 c3 g0 g1 g2 g3
        clear D9
        go_wp2_with fail
        refine bodyPost_ret (v := .agg #[.int .i64 (4), .int .i64 ((r2 : Int)), .int .i64 (0), .string ⟨#[120, 32, 121]⟩]) (by simp [results, Tryz.results35, go_sem, c0, c1, c2, c3]; try rfl) rfl ⟨⟨4, (r2 : Int), 0, ⟨#[120, 32, 121]⟩⟩, at_ + 1 + 1 + 1 + 1 + 1, rfl, (show (⟨#[120, 32, 121]⟩ : ByteArray).size ≤ 100 by decide), by omega, ((unhide HF) _ _ _ _).1, ((unhide HF) _ _ _ _).2⟩
      · simp only [List.getElem?_cons_zero, List.getElem?_cons_succ] at hc
        have D9 := D8.set 3 (.string ⟨#[10]⟩) (t2 := ⟨4, (r2 : Int), 0, ⟨#[10]⟩⟩) rfl
        clear D8
        have HF := hide (D9.fin)
        have c0 := D9.res.cell 0
        have c1 := D9.res.cell 1
        have c2 := D9.res.cell 2
        have c3 := D9.res.cell 3
        have z0 := D9.res.frozen 0
        have z1 := D9.res.frozen 1
        have z2 := D9.res.frozen 2
        have z3 := D9.res.frozen 3
        have g0 := D9.own.cell 0
        have g1 := D9.own.cell 1
        have g2 := D9.own.cell 2
        have g3 := D9.own.cell 3
        simp only [Tk.vals, List.getElem?_cons_zero, List.getElem?_cons_succ] at c0 c1 c2 c3 g0 g1 g2 g3
        clear D9
        go_wp2_with fail
        refine bodyPost_ret (v := .agg #[.int .i64 (4), .int .i64 ((r2 : Int)), .int .i64 (0), .string ⟨#[10]⟩]) (by simp [results, Tryz.results35, go_sem, c0, c1, c2, c3]; try rfl) rfl ⟨⟨4, (r2 : Int), 0, ⟨#[10]⟩⟩, at_ + 1 + 1 + 1 + 1 + 1, rfl, (show (⟨#[10]⟩ : ByteArray).size ≤ 100 by decide), by omega, ((unhide HF) _ _ _ _).1, ((unhide HF) _ _ _ _).2⟩
      · simp only [List.getElem?_cons_zero, List.getElem?_cons_succ] at hc
        have D9 := D8.set 3 (.string ⟨#[33]⟩) (t2 := ⟨4, (r2 : Int), 0, ⟨#[33]⟩⟩) rfl
        clear D8
        have HF := hide (D9.fin)
        have c0 := D9.res.cell 0
        have c1 := D9.res.cell 1
        have c2 := D9.res.cell 2
        have c3 := D9.res.cell 3
        have z0 := D9.res.frozen 0
        have z1 := D9.res.frozen 1
        have z2 := D9.res.frozen 2
        have z3 := D9.res.frozen 3
        have g0 := D9.own.cell 0
        have g1 := D9.own.cell 1
        have g2 := D9.own.cell 2
        have g3 := D9.own.cell 3
        simp only [Tk.vals, List.getElem?_cons_zero, List.getElem?_cons_succ] at c0 c1 c2 c3 g0 g1 g2 g3
        clear D9
        go_wp2_with fail
        refine bodyPost_ret (v := .agg #[.int .i64 (4), .int .i64 ((r2 : Int)), .int .i64 (0), .string ⟨#[33]⟩]) (by simp [results, Tryz.results35, go_sem, c0, c1, c2, c3]; try rfl) rfl ⟨⟨4, (r2 : Int), 0, ⟨#[33]⟩⟩, at_ + 1 + 1 + 1 + 1 + 1, rfl, (show (⟨#[33]⟩ : ByteArray).size ≤ 100 by decide), by omega, ((unhide HF) _ _ _ _).1, ((unhide HF) _ _ _ _).2⟩
    have b0 : ((r5 : Int) == 0) = false := by rw [beq_eq_false_iff_ne]; omega
    have b1 : ((r5 : Int) == 1) = false := by rw [beq_eq_false_iff_ne]; omega
    have b2 : ((r5 : Int) == 2) = false := by rw [beq_eq_false_iff_ne]; omega
    have HF := hide (D5.fin)
    have c0 := D5.res.cell 0
    have c1 := D5.res.cell 1
    have c2 := D5.res.cell 2
    have c3 := D5.res.cell 3
    have z0 := D5.res.frozen 0
    have z1 := D5.res.frozen 1
    have z2 := D5.res.frozen 2
    have z3 := D5.res.frozen 3
    have g0 := D5.own.cell 0
    have g1 := D5.own.cell 1
    have g2 := D5.own.cell 2
    have g3 := D5.own.cell 3
    simp only [Tk.vals, List.getElem?_cons_zero, List.getElem?_cons_succ] at c0 c1 c2 c3 g0 g1 g2 g3
    clear D5
    go_wp2_with fail
    refine bodyPost_ret (v := .agg #[.int .i64 (4), .int .i64 ((r2 : Int)), .int .i64 (0), .string t]) (by simp [results, Tryz.results35, go_sem, c0, c1, c2, c3]; try rfl) rfl ⟨⟨4, (r2 : Int), 0, t⟩, at_ + 1 + 1 + 1 + 1, rfl, ht, by omega, ((unhide HF) _ _ _ _).1, ((unhide HF) _ _ _ _).2⟩
  · have D2 := (unhide HDD) 5
    clear HDD
    have HN := hide (fun o => l1Next_any 5 bs len cap (at_ + 1 + 1) a _ (D2.alloc o).src (by decide) (by omega))
    have HD := hide (fun o => D2.alloc o)
    have hlt2 := D2.src.lt
    have hgt2 := D2.tch.size
    clear D2
    go_wp2_with fail
    refine ((unhide HN) _).mono ?_
    rintro e w3 ⟨r3, rfl, hr3, Sw3, Tw3⟩
    have hr' : r3 < 5 := by have := hr3 (by decide); omega
    have O1 : Own w3 (w2.heap.size + 1) 9 _ := ⟨_, (Tw3.block (w2.heap.size + 1) (by simp) (by simp at hlt2; have := hbs2; omega)).trans (alloc2_new _ _ _), rfl⟩
    have hc := O1.cell r3
    have D3 := ((unhide HD) _).go Sw3 Tw3
    clear O1 HN HD Sw3 Tw3 hr3
    have s3 := D3.own.cell 3
    have y3 := D3.own.frozen 3
    simp only [Tk.vals, List.getElem?_cons_zero, List.getElem?_cons_succ] at s3
    obtain ⟨t, ht, hct⟩ : ∃ t : ByteArray, t.size ≤ 100 ∧ w3.cell? ⟨w2.heap.size + 1, r3, none⟩ = some (.string t) := by
      obtain rfl | rfl | rfl | rfl | rfl : r3 = 0 ∨ r3 = 1 ∨ r3 = 2 ∨ r3 = 3 ∨ r3 = 4 := by omega
      all_goals exact ⟨_, by decide, hc⟩
    have hrz : (r3 : Int) < 5 := by omega
    clear hc
    have D4 := D3.set 3 (.string t) (t2 := ⟨5, (r2 : Int), 0, t⟩) rfl
    clear D3
    go_wp2_with fail
    refine (l1Next_any 24 bs len cap (at_ + 1 + 1 + 1) a _ D4.src (by decide) (by omega)).mono ?_
    rintro e w5 ⟨r5, rfl, hr5, Sw5, Tw5⟩
    have D5 := D4.go Sw5 Tw5
    clear D4 Sw5 Tw5
    by_cases e0 : r5 = 0
    · subst e0
      go_wp2_with fail
      refine (l1Next_any 6 bs len cap (at_ + 1 + 1 + 1 + 1) a _ D5.src (by decide) (by omega)).mono ?_
      rintro e w6 ⟨r6, rfl, hr6, Sw6, Tw6⟩
      have D6 := D5.go Sw6 Tw6
      clear D5 Sw6 Tw6
      have w16 : IntKind.i64.wrap ((1 : Int) + (r6 : Int)) = (1 : Int) + (r6 : Int) := IntWalk.i64_in _ ⟨by omega, by have := hr6 (by decide); omega⟩
      have D7 := D6.alloc (.cells #[.int .i64 0, .int .i64 7, .int .i64 ((1 : Int) + (r6 : Int))] 2)
      have HP := hide (l1Pick_any [0, 7, (1 : Int) + (r6 : Int)] w6.heap.size bs len cap (at_ + 1 + 1 + 1 + 1 + 1) a _ D7.src ⟨_, heap_alloc_new _ _, rfl⟩ (by have := D6.src.lt; omega) (by simp) (by simp) (by omega))
      clear D6
      go_wp2_with fail
      refine (unhide HP).mono ?_
      rintro e w8 ⟨⟨x, hx, rfl⟩, Sw8, Tw8⟩
      have D8 := D7.go Sw8 Tw8
      clear D7 Sw8 Tw8 HP hx
      have s0 := D8.own.cell 0
      have y0 := D8.own.frozen 0
      simp only [Tk.vals, List.getElem?_cons_zero, List.getElem?_cons_succ] at s0
      have D9 := D8.set 0 (.int .i64 x) (t2 := ⟨x, (r2 : Int), 0, t⟩) rfl
      clear D8
      have HF := hide (D9.fin)
      have c0 := D9.res.cell 0
      have c1 := D9.res.cell 1
      have c2 := D9.res.cell 2
      have c3 := D9.res.cell 3
      have z0 := D9.res.frozen 0
      have z1 := D9.res.frozen 1
      have z2 := D9.res.frozen 2
      have z3 := D9.res.frozen 3
      have g0 := D9.own.cell 0
      have g1 := D9.own.cell 1
      have g2 := D9.own.cell 2
      have g3 := D9.own.cell 3
      simp only [Tk.vals, List.getElem?_cons_zero, List.getElem?_cons_succ] at c0 c1 c2 c3 g0 g1 g2 g3
      clear D9
      go_wp2_with fail
      refine bodyPost_ret (v := .agg #[.int .i64 (x), .int .i64 ((r2 : Int)), .int .i64 (0), .string t]) (by simp [results, Tryz.results35, go_sem, c0, c1, c2, c3]; try rfl) rfl ⟨⟨x, (r2 : Int), 0, t⟩, at_ + 1 + 1 + 1 + 1 + 1 + 1, rfl, ht, by omega, ((unhide HF) _ _ _ _).1, ((unhide HF) _ _ _ _).2⟩
    by_cases e1 : r5 = 1
    · subst e1
      have D7 := D5.alloc (.cells #[.int .i64 1, .int .i64 (-1), .int .i64 1000000000000000, .int .i64 1000000000000001] 2)
      have HP := hide (l1Pick_any [1, -1, 1000000000000000, 1000000000000001] w5.heap.size bs len cap (at_ + 1 + 1 + 1 + 1) a _ D7.src ⟨_, heap_alloc_new _ _, rfl⟩ (by have := D5.src.lt; omega) (by simp) (by simp) (by omega))
      clear D5
      go_wp2_with fail
      refine (unhide HP).mono ?_
      rintro e w8 ⟨⟨x, hx, rfl⟩, Sw8, Tw8⟩
      have D8 := D7.go Sw8 Tw8
      clear D7 Sw8 Tw8 HP hx
      have s2 := D8.own.cell 2
      have y2 := D8.own.frozen 2
      simp only [Tk.vals, List.getElem?_cons_zero, List.getElem?_cons_succ] at s2
      have D9 := D8.set 2 (.int .i64 x) (t2 := ⟨5, (r2 : Int), x, t⟩) rfl
      clear D8
      have HF := hide (D9.fin)
      have c0 := D9.res.cell 0
      have c1 := D9.res.cell 1
      have c2 := D9.res.cell 2
      have c3 := D9.res.cell 3
      have z0 := D9.res.frozen 0
      have z1 := D9.res.frozen 1
      have z2 := D9.res.frozen 2
      have z3 := D9.res.frozen 3
      have g0 := D9.own.cell 0
      have g1 := D9.own.cell 1
      have g2 := D9.own.cell 2
      have g3 := D9.own.cell 3
      simp only [Tk.vals, List.getElem?_cons_zero, List.getElem?_cons_succ] at c0 c1 c2 c3 g0 g1 g2 g3
      clear D9
      go_wp2_with fail
      refine bodyPost_ret (v := .agg #[.int .i64 (5), .int .i64 ((r2 : Int)), .int .i64 (x), .string t]) (by simp [results, Tryz.results35, go_sem, c0, c1, c2, c3]; try rfl) rfl ⟨⟨5, (r2 : Int), x, t⟩, at_ + 1 + 1 + 1 + 1 + 1, rfl, ht, by omega, ((unhide HF) _ _ _ _).1, ((unhide HF) _ _ _ _).2⟩
    by_cases e2 : r5 = 2
    · subst e2
      have HN := hide (fun o => l1Next_any 5 bs len cap (at_ + 1 + 1 + 1 + 1) a (w5.alloc o) (D5.alloc o).src (by decide) (by omega))
      have HD := hide (fun o => D5.alloc o)
      have hlt5 := D5.src.lt
      clear D5
      go_wp2_with fail
      refine ((unhide HN) _).mono ?_
      rintro e w8 ⟨r8, rfl, hr8, Sw8, Tw8⟩
      have hr' : r8 < 5 := by have := hr8 (by decide); omega
      have O1 : Own w8 w5.heap.size 9 _ := ⟨_, (Tw8.block w5.heap.size (by simp) (by omega)).trans (heap_alloc_new _ _), rfl⟩
      have hc := O1.cell r8
      have D8 := ((unhide HD) _).go Sw8 Tw8
      clear O1 HN HD Sw8 Tw8 hr8
      have s3 := D8.own.cell 3
      have y3 := D8.own.frozen 3
      simp only [Tk.vals, List.getElem?_cons_zero, List.getElem?_cons_succ] at s3
      obtain rfl | rfl | rfl | rfl | rfl : r8 = 0 ∨ r8 = 1 ∨ r8 = 2 ∨ r8 = 3 ∨ r8 = 4 := by omega
      · simp only [List.getElem?_cons_zero, List.getElem?_cons_succ] at hc
        have D9 := D8.set 3 (.string ⟨#[]⟩) (t2 := ⟨5, (r2 : Int), 0, ⟨#[]⟩⟩) rfl
        clear D8
        have HF := hide (D9.fin)
        have c0 := D9.res.cell 0
        have c1 := D9.res.cell 1
        have c2 := D9.res.cell 2
        have c3 := D9.res.cell 3
        have z0 := D9.res.frozen 0
        have z1 := D9.res.frozen 1
        have z2 := D9.res.frozen 2
        have z3 := D9.res.frozen 3
        have g0 := D9.own.cell 0
        have g1 := D9.own.cell 1
        have g2 := D9.own.cell 2
        have g3 := D9.own.cell 3
        simp only [Tk.vals, List.getElem?_cons_zero, List.getElem?_cons_succ] at c0 c1 c2 c3 g0 g1 g2 g3
        clear D9
        go_wp2_with fail
        refine bodyPost_ret (v := .agg #[.int .i64 (5), .int .i64 ((r2 : Int)), .int .i64 (0), .string ⟨#[]⟩]) (by simp [results, Tryz.results35, go_sem, c0, c1, c2, c3]; try rfl) rfl ⟨⟨5, (r2 : Int), 0, ⟨#[]⟩⟩, at_ + 1 + 1 + 1 + 1 + 1, rfl, (show (⟨#[]⟩ : ByteArray).size ≤ 100 by decide), by omega, ((unhide HF) _ _ _ _).1, ((unhide HF) _ _ _ _).2⟩
      · simp only [List.getElem?_cons_zero, List.getElem?_cons_succ] at hc
        have D9 := D8.set 3 (.string ⟨#[65]⟩) (t2 := ⟨5, (r2 : Int), 0, ⟨#[65]⟩⟩) rfl
        clear D8
        have HF := hide (D9.fin)
        have c0 := D9.res.cell 0
        have c1 := D9.res.cell 1
        have c2 := D9.res.cell 2
        have c3 := D9.res.cell 3
        have z0 := D9.res.frozen 0
        have z1 := D9.res.frozen 1
        have z2 := D9.res.frozen 2
        have z3 := D9.res.frozen 3
        have g0 := D9.own.cell 0
        have g1 := D9.own.cell 1
        have g2 := D9.own.cell 2
        have g3 := D9.own.cell 3
        simp only [Tk.vals, List.getElem?_cons_zero, List.getElem?_cons_succ] at c0 c1 c2 c3 g0 g1 g2 g3
        clear D9
        go_wp2_with fail
        refine bodyPost_ret (v := .agg #[.int .i64 (5), .int .i64 ((r2 : Int)), .int .i64 (0), .string ⟨#[65]⟩]) (by simp [results, Tryz.results35, go_sem, c0, c1, c2, c3]; try rfl) rfl ⟨⟨5, (r2 : Int), 0, ⟨#[65]⟩⟩, at_ + 1 + 1 + 1 + 1 + 1, rfl, (show (⟨#[65]⟩ : ByteArray).size ≤ 100 by decide), by omega, ((unhide HF) _ _ _ _).1, ((unhide HF) _ _ _ _).2⟩
      · simp only [List.getElem?_cons_zero, List.getElem?_cons_succ] at hc
        have D9 := D8.set 3 (.string ⟨#[120, 32, 121]⟩) (t2 := ⟨5, (r2 : Int), 0, ⟨#[120, 32, 121]⟩⟩) rfl
        clear D8
        have HF := hide (D9.fin)
        have c0 := D9.res.cell 0
        have c1 := D9.res.cell 1
        have c2 := D9.res.cell 2
        have c3 := D9.res.cell 3
        have z0 := D9.res.frozen 0
        have z1 := D9.res.frozen 1
        have z2 := D9.res.frozen 2
        have z3 := D9.res.frozen 3
        have g0 := D9.own.cell 0
        have g1 := D9.own.cell 1
        have g2 := D9.own.cell 2
        have g3 := D9.own.cell 3
        simp only [Tk.vals, List.getElem?_cons_zero, List.getElem?_cons_succ] at c0 c1 c2 c3 g0 g1 g2 g3
        clear D9
        go_wp2_with fail
        refine bodyPost_ret (v := .agg #[.int .i64 (5), .int .i64 ((r2 : Int)), .int .i64 (0), .string ⟨#[120, 32, 121]⟩]) (by simp [results, Tryz.results35, go_sem, c0, c1, c2, c3]; try rfl) rfl ⟨⟨5, (r2 : Int), 0, ⟨#[120, 32, 121]⟩⟩, at_ + 1 + 1 + 1 + 1 + 1, rfl, (show (⟨#[120, 32, 121]⟩ : ByteArray).size ≤ 100 by decide), by omega, ((unhide HF) _ _ _ _).1, ((unhide HF) _ _ _ _).2⟩
      · simp only [List.getElem?_cons_zero, List.getElem?_cons_succ] at hc
        have D9 := D8.set 3 (.string ⟨#[10]⟩) (t2 := ⟨5, (r2 : Int), 0, ⟨#[10]⟩⟩) rfl
        clear D8
        have HF := hide (D9.fin)
        have c0 := D9.res.cell 0
        have c1 := D9.res.cell 1
        have c2 := D9.res.cell 2
        have c3 := D9.res.cell 3
        have z0 := D9.res.frozen 0
        have z1 := D9.res.frozen 1
        have z2 := D9.res.frozen 2
        have z3 := D9.res.frozen 3
        have g0 := D9.own.cell 0
        have g1 := D9.own.cell 1
        have g2 := D9.own.cell 2
        have g3 := D9.own.cell 3
        simp only [Tk.vals, List.getElem?_cons_zero, List.getElem?_cons_succ] at c0 c1 c2 c3 g0 g1 g2 g3
        clear D9
        go_wp2_with fail
        refine bodyPost_ret (v := .agg #[.int .i64 (5), .int .i64 ((r2 : Int)), .int .i64 (0), .string ⟨#[10]⟩]) (by simp [results, Tryz.results35, go_sem, c0, c1, c2, c3]; try rfl) rfl ⟨⟨5, (r2 : Int), 0, ⟨#[10]⟩⟩, at_ + 1 + 1 + 1 + 1 + 1, rfl, (show (⟨#[10]⟩ : ByteArray).size ≤ 100 by decide), by omega, ((unhide HF) _ _ _ _).1, ((unhide HF) _ _ _ _).2⟩
      · simp only [List.getElem?_cons_zero, List.getElem?_cons_succ] at hc
        have D9 := D8.set 3 (.string ⟨#[33]⟩) (t2 := ⟨5, (r2 : Int), 0, ⟨#[33]⟩⟩) rfl
        clear D8
        have HF := hide (D9.fin)
        have c0 := D9.res.cell 0
        have c1 := D9.res.cell 1
        have c2 := D9.res.cell 2
        have c3 := D9.res.cell 3
        have z0 := D9.res.frozen 0
        have z1 := D9.res.frozen 1
        have z2 := D9.res.frozen 2
        have z3 := D9.res.frozen 3
        have g0 := D9.own.cell 0
        have g1 := D9.own.cell 1
        have g2 := D9.own.cell 2
        have g3 := D9.own.cell 3
        simp only [Tk.vals, List.getElem?_cons_zero, List.getElem?_cons_succ] at c0 c1 c2 c3 g0 g1 g2 g3
        clear D9
        go_wp2_with fail
        refine bodyPost_ret (v := .agg #[.int .i64 (5), .int .i64 ((r2 : Int)), .int .i64 (0), .string ⟨#[33]⟩]) (by simp [results, Tryz.results35, go_sem, c0, c1, c2, c3]; try rfl) rfl ⟨⟨5, (r2 : Int), 0, ⟨#[33]⟩⟩, at_ + 1 + 1 + 1 + 1 + 1, rfl, (show (⟨#[33]⟩ : ByteArray).size ≤ 100 by decide), by omega, ((unhide HF) _ _ _ _).1, ((unhide HF) _ _ _ _).2⟩
    have b0 : ((r5 : Int) == 0) = false := by rw [beq_eq_false_iff_ne]; omega
    have b1 : ((r5 : Int) == 1) = false := by rw [beq_eq_false_iff_ne]; omega
    have b2 : ((r5 : Int) == 2) = false := by rw [beq_eq_false_iff_ne]; omega
    have HF := hide (D5.fin)
    have c0 := D5.res.cell 0
    have c1 := D5.res.cell 1
    have c2 := D5.res.cell 2
    have c3 := D5.res.cell 3
    have z0 := D5.res.frozen 0
    have z1 := D5.res.frozen 1
    have z2 := D5.res.frozen 2
    have z3 := D5.res.frozen 3
    have g0 := D5.own.cell 0
    have g1 := D5.own.cell 1
    have g2 := D5.own.cell 2
    have g3 := D5.own.cell 3
    simp only [Tk.vals, List.getElem?_cons_zero, List.getElem?_cons_succ] at c0 c1 c2 c3 g0 g1 g2 g3
    clear D5
    go_wp2_with fail
    refine bodyPost_ret (v := .agg #[.int .i64 (5), .int .i64 ((r2 : Int)), .int .i64 (0), .string t]) (by simp [results, Tryz.results35, go_sem, c0, c1, c2, c3]; try rfl) rfl ⟨⟨5, (r2 : Int), 0, t⟩, at_ + 1 + 1 + 1 + 1, rfl, ht, by omega, ((unhide HF) _ _ _ _).1, ((unhide HF) _ _ _ _).2⟩
  · have D2 := (unhide HDD) 6
    clear HDD
    have HD := hide (fun o => D2.alloc o)
    have hbs := hbs2
    clear D2
    go_wp2_with fail
    refine (l4Marks_any _).mono ?_
    rintro e wm ⟨rfl, hwm⟩
    have OM : Own wm (w2.heap.size + 1) 9 (theMarks.map Value.string) := by rw [hwm]; have h := heap_alloc_new (w2.alloc (.cells #[.int .i64 6, .int .i64 (r2 : Int), .int .i64 0, .string ByteArray.empty] 33)) (.cells (theMarks.map Value.string).toArray 9); rw [World.size_alloc] at h; exact ⟨_, h, by simp⟩
    have DM : Dr w wm bs a len cap (at_ + 1 + 1) w2.heap.size ⟨6, (r2 : Int), 0, ByteArray.empty⟩ := by rw [hwm]; exact (unhide HD) _
    clear hwm HD
    go_wp2_with fail
    refine (l1Next_any 25 bs len cap (at_ + 1 + 1) a _ DM.src (by decide) (by omega)).mono ?_
    rintro e w3 ⟨r3, rfl, hr3, Sw3, Tw3⟩
    have hr' : r3 < 25 := by have := hr3 (by decide); omega
    have O3 := Tw3.own OM OM.lt (by omega)
    have D3 := DM.go Sw3 Tw3
    have hl25 : theMarks.length = 25 := rfl
    have hc := O3.cell r3
    rw [List.getElem?_map, List.getElem?_eq_getElem (by rw [hl25]; exact hr')] at hc
    simp only [Option.map_some] at hc
    have ht := marks_size _ (List.getElem_mem (by rw [hl25]; exact hr' : r3 < theMarks.length))
    generalize theMarks[r3]'(by rw [hl25]; exact hr') = t at *
    have hrz : (r3 : Int) < 25 := by omega
    clear O3 OM DM Sw3 Tw3 hr3 hl25
    have s3 := D3.own.cell 3
    have y3 := D3.own.frozen 3
    simp only [Tk.vals, List.getElem?_cons_zero, List.getElem?_cons_succ] at s3
    have D4 := D3.set 3 (.string t) (t2 := ⟨6, (r2 : Int), 0, t⟩) rfl
    clear D3
    go_wp2_with fail
    refine (l1Next_any 24 bs len cap (at_ + 1 + 1 + 1) a _ D4.src (by decide) (by omega)).mono ?_
    rintro e w5 ⟨r5, rfl, hr5, Sw5, Tw5⟩
    have D5 := D4.go Sw5 Tw5
    clear D4 Sw5 Tw5
    by_cases e0 : r5 = 0
    · subst e0
      go_wp2_with fail
      refine (l1Next_any 6 bs len cap (at_ + 1 + 1 + 1 + 1) a _ D5.src (by decide) (by omega)).mono ?_
      rintro e w6 ⟨r6, rfl, hr6, Sw6, Tw6⟩
      have D6 := D5.go Sw6 Tw6
      clear D5 Sw6 Tw6
      have w16 : IntKind.i64.wrap ((1 : Int) + (r6 : Int)) = (1 : Int) + (r6 : Int) := IntWalk.i64_in _ ⟨by omega, by have := hr6 (by decide); omega⟩
      have D7 := D6.alloc (.cells #[.int .i64 0, .int .i64 7, .int .i64 ((1 : Int) + (r6 : Int))] 2)
      have HP := hide (l1Pick_any [0, 7, (1 : Int) + (r6 : Int)] w6.heap.size bs len cap (at_ + 1 + 1 + 1 + 1 + 1) a _ D7.src ⟨_, heap_alloc_new _ _, rfl⟩ (by have := D6.src.lt; omega) (by simp) (by simp) (by omega))
      clear D6
      go_wp2_with fail
      refine (unhide HP).mono ?_
      rintro e w8 ⟨⟨x, hx, rfl⟩, Sw8, Tw8⟩
      have D8 := D7.go Sw8 Tw8
      clear D7 Sw8 Tw8 HP hx
      have s0 := D8.own.cell 0
      have y0 := D8.own.frozen 0
      simp only [Tk.vals, List.getElem?_cons_zero, List.getElem?_cons_succ] at s0
      have D9 := D8.set 0 (.int .i64 x) (t2 := ⟨x, (r2 : Int), 0, t⟩) rfl
      clear D8
      have HF := hide (D9.fin)
      have c0 := D9.res.cell 0
      have c1 := D9.res.cell 1
      have c2 := D9.res.cell 2
      have c3 := D9.res.cell 3
      have z0 := D9.res.frozen 0
      have z1 := D9.res.frozen 1
      have z2 := D9.res.frozen 2
      have z3 := D9.res.frozen 3
      have g0 := D9.own.cell 0
      have g1 := D9.own.cell 1
      have g2 := D9.own.cell 2
      have g3 := D9.own.cell 3
      simp only [Tk.vals, List.getElem?_cons_zero, List.getElem?_cons_succ] at c0 c1 c2 c3 g0 g1 g2 g3
      clear D9
      go_wp2_with fail
      refine bodyPost_ret (v := .agg #[.int .i64 (x), .int .i64 ((r2 : Int)), .int .i64 (0), .string t]) (by simp [results, Tryz.results35, go_sem, c0, c1, c2, c3]; try rfl) rfl ⟨⟨x, (r2 : Int), 0, t⟩, at_ + 1 + 1 + 1 + 1 + 1 + 1, rfl, ht, by omega, ((unhide HF) _ _ _ _).1, ((unhide HF) _ _ _ _).2⟩
    by_cases e1 : r5 = 1
    · subst e1
      have D7 := D5.alloc (.cells #[.int .i64 1, .int .i64 (-1), .int .i64 1000000000000000, .int .i64 1000000000000001] 2)
      have HP := hide (l1Pick_any [1, -1, 1000000000000000, 1000000000000001] w5.heap.size bs len cap (at_ + 1 + 1 + 1 + 1) a _ D7.src ⟨_, heap_alloc_new _ _, rfl⟩ (by have := D5.src.lt; omega) (by simp) (by simp) (by omega))
      clear D5
      go_wp2_with fail
      refine (unhide HP).mono ?_
      rintro e w8 ⟨⟨x, hx, rfl⟩, Sw8, Tw8⟩
      have D8 := D7.go Sw8 Tw8
      clear D7 Sw8 Tw8 HP hx
      have s2 := D8.own.cell 2
      have y2 := D8.own.frozen 2
      simp only [Tk.vals, List.getElem?_cons_zero, List.getElem?_cons_succ] at s2
      have D9 := D8.set 2 (.int .i64 x) (t2 := ⟨6, (r2 : Int), x, t⟩) rfl
      clear D8
      have HF := hide (D9.fin)
      have c0 := D9.res.cell 0
      have c1 := D9.res.cell 1
      have c2 := D9.res.cell 2
      have c3 := D9.res.cell 3
      have z0 := D9.res.frozen 0
      have z1 := D9.res.frozen 1
      have z2 := D9.res.frozen 2
      have z3 := D9.res.frozen 3
      have g0 := D9.own.cell 0
      have g1 := D9.own.cell 1
      have g2 := D9.own.cell 2
      have g3 := D9.own.cell 3
      simp only [Tk.vals, List.getElem?_cons_zero, List.getElem?_cons_succ] at c0 c1 c2 c3 g0 g1 g2 g3
      clear D9
      go_wp2_with fail
      refine bodyPost_ret (v := .agg #[.int .i64 (6), .int .i64 ((r2 : Int)), .int .i64 (x), .string t]) (by simp [results, Tryz.results35, go_sem, c0, c1, c2, c3]; try rfl) rfl ⟨⟨6, (r2 : Int), x, t⟩, at_ + 1 + 1 + 1 + 1 + 1, rfl, ht, by omega, ((unhide HF) _ _ _ _).1, ((unhide HF) _ _ _ _).2⟩
    by_cases e2 : r5 = 2
    · subst e2
      have HN := hide (fun o => l1Next_any 5 bs len cap (at_ + 1 + 1 + 1 + 1) a (w5.alloc o) (D5.alloc o).src (by decide) (by omega))
      have HD := hide (fun o => D5.alloc o)
      have hlt5 := D5.src.lt
      clear D5
      go_wp2_with fail
      refine ((unhide HN) _).mono ?_
      rintro e w8 ⟨r8, rfl, hr8, Sw8, Tw8⟩
      have hr' : r8 < 5 := by have := hr8 (by decide); omega
      have O1 : Own w8 w5.heap.size 9 _ := ⟨_, (Tw8.block w5.heap.size (by simp) (by omega)).trans (heap_alloc_new _ _), rfl⟩
      have hc := O1.cell r8
      have D8 := ((unhide HD) _).go Sw8 Tw8
      clear O1 HN HD Sw8 Tw8 hr8
      have s3 := D8.own.cell 3
      have y3 := D8.own.frozen 3
      simp only [Tk.vals, List.getElem?_cons_zero, List.getElem?_cons_succ] at s3
      obtain rfl | rfl | rfl | rfl | rfl : r8 = 0 ∨ r8 = 1 ∨ r8 = 2 ∨ r8 = 3 ∨ r8 = 4 := by omega
      · simp only [List.getElem?_cons_zero, List.getElem?_cons_succ] at hc
        have D9 := D8.set 3 (.string ⟨#[]⟩) (t2 := ⟨6, (r2 : Int), 0, ⟨#[]⟩⟩) rfl
        clear D8
        have HF := hide (D9.fin)
        have c0 := D9.res.cell 0
        have c1 := D9.res.cell 1
        have c2 := D9.res.cell 2
        have c3 := D9.res.cell 3
        have z0 := D9.res.frozen 0
        have z1 := D9.res.frozen 1
        have z2 := D9.res.frozen 2
        have z3 := D9.res.frozen 3
        have g0 := D9.own.cell 0
        have g1 := D9.own.cell 1
        have g2 := D9.own.cell 2
        have g3 := D9.own.cell 3
        simp only [Tk.vals, List.getElem?_cons_zero, List.getElem?_cons_succ] at c0 c1 c2 c3 g0 g1 g2 g3
        clear D9
        go_wp2_with fail
        refine bodyPost_ret (v := .agg #[.int .i64 (6), .int .i64 ((r2 : Int)), .int .i64 (0), .string ⟨#[]⟩]) (by simp [results, Tryz.results35, go_sem, c0, c1, c2, c3]; try rfl) rfl ⟨⟨6, (r2 : Int), 0, ⟨#[]⟩⟩, at_ + 1 + 1 + 1 + 1 + 1, rfl, (show (⟨#[]⟩ : ByteArray).size ≤ 100 by decide), by omega, ((unhide HF) _ _ _ _).1, ((unhide HF) _ _ _ _).2⟩
      · simp only [List.getElem?_cons_zero, List.getElem?_cons_succ] at hc
        have D9 := D8.set 3 (.string ⟨#[65]⟩) (t2 := ⟨6, (r2 : Int), 0, ⟨#[65]⟩⟩) rfl
        clear D8
        have HF := hide (D9.fin)
        have c0 := D9.res.cell 0
        have c1 := D9.res.cell 1
        have c2 := D9.res.cell 2
        have c3 := D9.res.cell 3
        have z0 := D9.res.frozen 0
        have z1 := D9.res.frozen 1
        have z2 := D9.res.frozen 2
        have z3 := D9.res.frozen 3
        have g0 := D9.own.cell 0
        have g1 := D9.own.cell 1
        have g2 := D9.own.cell 2
        have g3 := D9.own.cell 3
        simp only [Tk.vals, List.getElem?_cons_zero, List.getElem?_cons_succ] at c0 c1 c2 c3 g0 g1 g2 g3
        clear D9
        go_wp2_with fail
        refine bodyPost_ret (v := .agg #[.int .i64 (6), .int .i64 ((r2 : Int)), .int .i64 (0), .string ⟨#[65]⟩]) (by simp [results, Tryz.results35, go_sem, c0, c1, c2, c3]; try rfl) rfl ⟨⟨6, (r2 : Int), 0, ⟨#[65]⟩⟩, at_ + 1 + 1 + 1 + 1 + 1, rfl, (show (⟨#[65]⟩ : ByteArray).size ≤ 100 by decide), by omega, ((unhide HF) _ _ _ _).1, ((unhide HF) _ _ _ _).2⟩
      · simp only [List.getElem?_cons_zero, List.getElem?_cons_succ] at hc
        have D9 := D8.set 3 (.string ⟨#[120, 32, 121]⟩) (t2 := ⟨6, (r2 : Int), 0, ⟨#[120, 32, 121]⟩⟩) rfl
        clear D8
        have HF := hide (D9.fin)
        have c0 := D9.res.cell 0
        have c1 := D9.res.cell 1
        have c2 := D9.res.cell 2
        have c3 := D9.res.cell 3
        have z0 := D9.res.frozen 0
        have z1 := D9.res.frozen 1
        have z2 := D9.res.frozen 2
        have z3 := D9.res.frozen 3
        have g0 := D9.own.cell 0
        have g1 := D9.own.cell 1
        have g2 := D9.own.cell 2
        have g3 := D9.own.cell 3
        simp only [Tk.vals, List.getElem?_cons_zero, List.getElem?_cons_succ] at c0 c1 c2 c3 g0 g1 g2 g3
        clear D9
        go_wp2_with fail
        refine bodyPost_ret (v := .agg #[.int .i64 (6), .int .i64 ((r2 : Int)), .int .i64 (0), .string ⟨#[120, 32, 121]⟩]) (by simp [results, Tryz.results35, go_sem, c0, c1, c2, c3]; try rfl) rfl ⟨⟨6, (r2 : Int), 0, ⟨#[120, 32, 121]⟩⟩, at_ + 1 + 1 + 1 + 1 + 1, rfl, (show (⟨#[120, 32, 121]⟩ : ByteArray).size ≤ 100 by decide), by omega, ((unhide HF) _ _ _ _).1, ((unhide HF) _ _ _ _).2⟩
      · simp only [List.getElem?_cons_zero, List.getElem?_cons_succ] at hc
        have D9 := D8.set 3 (.string ⟨#[10]⟩) (t2 := ⟨6, (r2 : Int), 0, ⟨#[10]⟩⟩) rfl
        clear D8
        have HF := hide (D9.fin)
        have c0 := D9.res.cell 0
        have c1 := D9.res.cell 1
        have c2 := D9.res.cell 2
        have c3 := D9.res.cell 3
        have z0 := D9.res.frozen 0
        have z1 := D9.res.frozen 1
        have z2 := D9.res.frozen 2
        have z3 := D9.res.frozen 3
        have g0 := D9.own.cell 0
        have g1 := D9.own.cell 1
        have g2 := D9.own.cell 2
        have g3 := D9.own.cell 3
        simp only [Tk.vals, List.getElem?_cons_zero, List.getElem?_cons_succ] at c0 c1 c2 c3 g0 g1 g2 g3
        clear D9
        go_wp2_with fail
        refine bodyPost_ret (v := .agg #[.int .i64 (6), .int .i64 ((r2 : Int)), .int .i64 (0), .string ⟨#[10]⟩]) (by simp [results, Tryz.results35, go_sem, c0, c1, c2, c3]; try rfl) rfl ⟨⟨6, (r2 : Int), 0, ⟨#[10]⟩⟩, at_ + 1 + 1 + 1 + 1 + 1, rfl, (show (⟨#[10]⟩ : ByteArray).size ≤ 100 by decide), by omega, ((unhide HF) _ _ _ _).1, ((unhide HF) _ _ _ _).2⟩
      · simp only [List.getElem?_cons_zero, List.getElem?_cons_succ] at hc
        have D9 := D8.set 3 (.string ⟨#[33]⟩) (t2 := ⟨6, (r2 : Int), 0, ⟨#[33]⟩⟩) rfl
        clear D8
        have HF := hide (D9.fin)
        have c0 := D9.res.cell 0
        have c1 := D9.res.cell 1
        have c2 := D9.res.cell 2
        have c3 := D9.res.cell 3
        have z0 := D9.res.frozen 0
        have z1 := D9.res.frozen 1
        have z2 := D9.res.frozen 2
        have z3 := D9.res.frozen 3
        have g0 := D9.own.cell 0
        have g1 := D9.own.cell 1
        have g2 := D9.own.cell 2
        have g3 := D9.own.cell 3
        simp only [Tk.vals, List.getElem?_cons_zero, List.getElem?_cons_succ] at c0 c1 c2 c3 g0 g1 g2 g3
        clear D9
        go_wp2_with fail
        refine bodyPost_ret (v := .agg #[.int .i64 (6), .int .i64 ((r2 : Int)), .int .i64 (0), .string ⟨#[33]⟩]) (by simp [results, Tryz.results35, go_sem, c0, c1, c2, c3]; try rfl) rfl ⟨⟨6, (r2 : Int), 0, ⟨#[33]⟩⟩, at_ + 1 + 1 + 1 + 1 + 1, rfl, (show (⟨#[33]⟩ : ByteArray).size ≤ 100 by decide), by omega, ((unhide HF) _ _ _ _).1, ((unhide HF) _ _ _ _).2⟩
    have b0 : ((r5 : Int) == 0) = false := by rw [beq_eq_false_iff_ne]; omega
    have b1 : ((r5 : Int) == 1) = false := by rw [beq_eq_false_iff_ne]; omega
    have b2 : ((r5 : Int) == 2) = false := by rw [beq_eq_false_iff_ne]; omega
    have HF := hide (D5.fin)
    have c0 := D5.res.cell 0
    have c1 := D5.res.cell 1
    have c2 := D5.res.cell 2
    have c3 := D5.res.cell 3
    have z0 := D5.res.frozen 0
    have z1 := D5.res.frozen 1
    have z2 := D5.res.frozen 2
    have z3 := D5.res.frozen 3
    have g0 := D5.own.cell 0
    have g1 := D5.own.cell 1
    have g2 := D5.own.cell 2
    have g3 := D5.own.cell 3
    simp only [Tk.vals, List.getElem?_cons_zero, List.getElem?_cons_succ] at c0 c1 c2 c3 g0 g1 g2 g3
    clear D5
    go_wp2_with fail
    refine bodyPost_ret (v := .agg #[.int .i64 (6), .int .i64 ((r2 : Int)), .int .i64 (0), .string t]) (by simp [results, Tryz.results35, go_sem, c0, c1, c2, c3]; try rfl) rfl ⟨⟨6, (r2 : Int), 0, t⟩, at_ + 1 + 1 + 1 + 1, rfl, ht, by omega, ((unhide HF) _ _ _ _).1, ((unhide HF) _ _ _ _).2⟩

end Go.Proofs.YtabpjknbdahddaaGreatDoor
