/-
  impl.formOf: the first part, once.
-/
import Derived.Test.YtmbefapdckhjdaaLofC
import Derived.Deep.RegionHeld3
import Derived.Deep.RegionHeldLaw
import Derived.Deep.CutRange
namespace Go.Proofs.Ytmbefapdckhjdaa
open Go.RowKit
set_option linter.unusedVariables false
set_option linter.unusedSimpArgs false


namespace Lf
theorem own3_0 {w0 : World} {t : TypeId} {A B C : Array Value} {k : Nat} (hk : k = w0.heap.size) : Own (((w0.alloc (.cells A t)).alloc (.cells B t)).alloc (.cells C t)) k t A.toList := by
  subst hk; exact Own.alloc (Own.alloc ⟨_, heap_alloc_new _ _, rfl⟩ _) _
theorem own3_1 {w0 : World} {t : TypeId} {A B C : Array Value} {k : Nat} (hk : k = w0.heap.size + 1) : Own (((w0.alloc (.cells A t)).alloc (.cells B t)).alloc (.cells C t)) k t B.toList := by
  have : k = (w0.alloc (.cells A t)).heap.size := by simp [hk]
  subst this; exact Own.alloc ⟨_, heap_alloc_new _ _, rfl⟩ _
theorem own3_2 {w0 : World} {t : TypeId} {A B C : Array Value} {k : Nat} (hk : k = w0.heap.size + 2) : Own (((w0.alloc (.cells A t)).alloc (.cells B t)).alloc (.cells C t)) k t C.toList := by
  have : k = ((w0.alloc (.cells A t)).alloc (.cells B t)).heap.size := by simp [hk]
  subst this; exact ⟨_, heap_alloc_new _ _, rfl⟩

theorem bt3_8 {w W0 : World} {c : M.Cl} {f : Fm} {v : Value} {g : Nat} {bl : List Nat} {i : Int} (hb : Below w.heap.size w W0) (hr : Res W0 w.heap.size (.slice (some ⟨g, 0, none⟩) 1 1) [c]) (hv : Fv W0 w.heap.size f [v] bl) (nd : bl.Nodup) (hg : g ∉ bl) (hin : ∀ b ∈ bl, w.heap.size ≤ b ∧ b < W0.heap.size) (hg1 : w.heap.size ≤ g ∧ g < W0.heap.size) :
    Bt w (Lw.over 12 (Lw.l3 (.tree i) (Lw.con c) f)) (.returned (iNode 12 0 (.slice none 0 0) (.slice (some ⟨W0.heap.size, 0, none⟩) 3 3))) (W0.alloc (.cells #[iTree i, iNode 2 0 (.slice (some ⟨g, 0, none⟩) 1 1) (.slice none 0 0), v] 91)) := by
  have bz : ∀ o, Below W0.heap.size W0 (W0.alloc o) := fun o => (Below.refl _ _).alloc (Nat.le_refl _) o
  refine ⟨_, [] ++ ([g] ++ bl), rfl, fv_over (.inr ⟨W0.heap.size, rfl, hb.size, ⟨_, heap_alloc_new _ _, rfl⟩⟩) (fv_l3 (fv_tree _ _ i) (fv_con (hr.below (bz _))) (Fv.keep (Kf.below (bz _)) _ hv)), ?_, ?_, hb.alloc hb.size _⟩
  · simp [hg, nd]
  · intro b h
    simp only [List.nil_append, List.cons_append, List.mem_cons] at h
    have hz : (W0.alloc (.cells #[iTree i, iNode 2 0 (.slice (some ⟨g, 0, none⟩) 1 1) (.slice none 0 0), v] 91)).heap.size = W0.heap.size + 1 := by simp
    rw [hz]
    rcases h with rfl | h
    · omega
    · have := hin b h; omega
theorem bt3_9 {w W0 : World} {c : M.Cl} {f : Fm} {v : Value} {g : Nat} {bl : List Nat} {i : Int} (hb : Below w.heap.size w W0) (hr : Res W0 w.heap.size (.slice (some ⟨g, 0, none⟩) 1 1) [c]) (hv : Fv W0 w.heap.size f [v] bl) (nd : bl.Nodup) (hg : g ∉ bl) (hin : ∀ b ∈ bl, w.heap.size ≤ b ∧ b < W0.heap.size) (hg1 : w.heap.size ≤ g ∧ g < W0.heap.size) :
    Bt w (Lw.over 12 (Lw.l3 (.tree i) f (Lw.con c))) (.returned (iNode 12 0 (.slice none 0 0) (.slice (some ⟨W0.heap.size, 0, none⟩) 3 3))) (W0.alloc (.cells #[iTree i, v, iNode 2 0 (.slice (some ⟨g, 0, none⟩) 1 1) (.slice none 0 0)] 91)) := by
  have bz : ∀ o, Below W0.heap.size W0 (W0.alloc o) := fun o => (Below.refl _ _).alloc (Nat.le_refl _) o
  refine ⟨_, [] ++ (bl ++ [g]), rfl, fv_over (.inr ⟨W0.heap.size, rfl, hb.size, ⟨_, heap_alloc_new _ _, rfl⟩⟩) (fv_l3 (fv_tree _ _ i) (Fv.keep (Kf.below (bz _)) _ hv) (fv_con (hr.below (bz _)))), ?_, ?_, hb.alloc hb.size _⟩
  · simp only [List.nil_append]
    exact List.nodup_append.2 ⟨nd, by simp, fun a ha b hb' e => by simp only [List.mem_singleton] at hb'; subst hb'; subst e; exact hg ha⟩
  · intro b h
    simp only [List.nil_append, List.mem_append, List.mem_singleton] at h
    have hz : (W0.alloc (.cells #[iTree i, v, iNode 2 0 (.slice (some ⟨g, 0, none⟩) 1 1) (.slice none 0 0)] 91)).heap.size = W0.heap.size + 1 := by simp
    rw [hz]
    rcases h with h | rfl
    · have := hin b h; omega
    · omega
end Lf

set_option maxHeartbeats 1000000 in
theorem cellOf_2 (n : Nd) (w : World) : Calls Try.prog 89 #[.agg #[.int .i64 2, .int .i64 n.a, .int .i64 n.b, .int .i64 n.c, .int .i64 n.num, .string n.text]] w fun e w' => e = .returned (.agg #[.int .i64 3, .int .i64 n.num, .string ByteArray.empty, .string ByteArray.empty, .int .i64 0]) ∧ Below w.heap.size w w' := by
  have B0 : Hid (∀ o o', Below w.heap.size w ((w.alloc o).alloc o')) := fun o o' => ((Below.refl _ _).alloc (Nat.le_refl _) o).alloc (by simp) o'
  go_enter Try.func89, Try.ntmps89
  go_wp2_with fail
  refine bodyPost_ret (v := .agg #[.int .i64 3, .int .i64 n.num, .string ByteArray.empty, .string ByteArray.empty, .int .i64 0]) (by simp [results, Try.results89, go_sem]; try rfl) rfl ⟨rfl, ?_⟩
  repeat (first | exact B0.out _ _ | exact Below.refl _ _ | refine Below.setCell ?_ (by simp <;> omega) _ | refine Below.alloc ?_ (by simp <;> omega) _)

set_option maxHeartbeats 1000000 in
theorem cellOf_3 (n : Nd) (w : World) : Calls Try.prog 89 #[.agg #[.int .i64 3, .int .i64 n.a, .int .i64 n.b, .int .i64 n.c, .int .i64 n.num, .string n.text]] w fun e w' => e = .returned (.agg #[.int .i64 4, .int .i64 0, .string n.text, .string ByteArray.empty, .int .i64 0]) ∧ Below w.heap.size w w' := by
  have B0 : Hid (∀ o o', Below w.heap.size w ((w.alloc o).alloc o')) := fun o o' => ((Below.refl _ _).alloc (Nat.le_refl _) o).alloc (by simp) o'
  go_enter Try.func89, Try.ntmps89
  go_wp2_with fail
  refine bodyPost_ret (v := .agg #[.int .i64 4, .int .i64 0, .string n.text, .string ByteArray.empty, .int .i64 0]) (by simp [results, Try.results89, go_sem]; try rfl) rfl ⟨rfl, ?_⟩
  repeat (first | exact B0.out _ _ | exact Below.refl _ _ | refine Below.setCell ?_ (by simp <;> omega) _ | refine Below.alloc ?_ (by simp <;> omega) _)

set_option maxHeartbeats 1000000 in
theorem cellOf_15 (n : Nd) (w : World) : Calls Try.prog 89 #[.agg #[.int .i64 15, .int .i64 n.a, .int .i64 n.b, .int .i64 n.c, .int .i64 n.num, .string n.text]] w fun e w' => e = .returned (.agg #[.int .i64 5, .int .i64 0, .string ByteArray.empty, .string ByteArray.empty, .int .i64 0]) ∧ Below w.heap.size w w' := by
  have B0 : Hid (∀ o o', Below w.heap.size w ((w.alloc o).alloc o')) := fun o o' => ((Below.refl _ _).alloc (Nat.le_refl _) o).alloc (by simp) o'
  go_enter Try.func89, Try.ntmps89
  go_wp2_with fail
  refine bodyPost_ret (v := .agg #[.int .i64 5, .int .i64 0, .string ByteArray.empty, .string ByteArray.empty, .int .i64 0]) (by simp [results, Try.results89, go_sem]; try rfl) rfl ⟨rfl, ?_⟩
  repeat (first | exact B0.out _ _ | exact Below.refl _ _ | refine Below.setCell ?_ (by simp <;> omega) _ | refine Below.alloc ?_ (by simp <;> omega) _)

set_option maxHeartbeats 1000000 in
theorem cellOf_16 (n : Nd) (w : World) : Calls Try.prog 89 #[.agg #[.int .i64 16, .int .i64 n.a, .int .i64 n.b, .int .i64 n.c, .int .i64 n.num, .string n.text]] w fun e w' => e = .returned (.agg #[.int .i64 6, .int .i64 0, .string ByteArray.empty, .string ByteArray.empty, .int .i64 0]) ∧ Below w.heap.size w w' := by
  have B0 : Hid (∀ o o', Below w.heap.size w ((w.alloc o).alloc o')) := fun o o' => ((Below.refl _ _).alloc (Nat.le_refl _) o).alloc (by simp) o'
  go_enter Try.func89, Try.ntmps89
  go_wp2_with fail
  refine bodyPost_ret (v := .agg #[.int .i64 6, .int .i64 0, .string ByteArray.empty, .string ByteArray.empty, .int .i64 0]) (by simp [results, Try.results89, go_sem]; try rfl) rfl ⟨rfl, ?_⟩
  repeat (first | exact B0.out _ _ | exact Below.refl _ _ | refine Below.setCell ?_ (by simp <;> omega) _ | refine Below.alloc ?_ (by simp <;> omega) _)

set_option maxHeartbeats 1000000 in
theorem cellOf_4 (n : Nd) (w : World) (h0 : 0 ≤ n.num) (h1 : n.num ≤ 2) : Calls Try.prog 89 #[.agg #[.int .i64 4, .int .i64 n.a, .int .i64 n.b, .int .i64 n.c, .int .i64 n.num, .string n.text]] w fun e w' => e = .returned (.agg #[.int .i64 n.num, .int .i64 0, .string ByteArray.empty, .string ByteArray.empty, .int .i64 0]) ∧ Below w.heap.size w w' := by
  have B0 : Hid (∀ o o', Below w.heap.size w ((w.alloc o).alloc o')) := fun o o' => ((Below.refl _ _).alloc (Nat.le_refl _) o).alloc (by simp) o'
  go_enter Try.func89, Try.ntmps89
  go_wp2_with fail
  refine bodyPost_ret (v := .agg #[.int .i64 n.num, .int .i64 0, .string ByteArray.empty, .string ByteArray.empty, .int .i64 0]) (by simp [results, Try.results89, go_sem]; try rfl) rfl ⟨rfl, ?_⟩
  repeat (first | exact B0.out _ _ | exact Below.refl _ _ | refine Below.setCell ?_ (by simp <;> omega) _ | refine Below.alloc ?_ (by simp <;> omega) _)

namespace Lf
theorem call_form (t : ByteArray) : Lw.call t ≠ .nil ∧ ∀ a b, Lw.call t ≠ .cons a b := by
  unfold Lw.call
  refine ⟨?_, fun a b => ?_⟩ <;> (repeat' split) <;> (intro h; first | (unfold Lw.over at h; cases h) | (unfold Lw.done at h; cases h))
theorem one_form (t : ByteArray) (f : Fm) : Lw.callOne t f ≠ .nil ∧ ∀ a b, Lw.callOne t f ≠ .cons a b := by
  unfold Lw.callOne
  refine ⟨?_, fun a b => ?_⟩ <;> (repeat' split) <;> (intro h; unfold Lw.over at h; cases h)
end Lf
set_option maxRecDepth 100000 in
set_option maxHeartbeats 8000000 in
theorem formOf_any (n : Nd) (w : World) (ho0 : 1 ≤ n.op) (ho1 : n.op ≤ 24) (hnum : n.op = 4 → 0 ≤ n.num ∧ n.num ≤ 2) : Calls Try.prog 51 #[.agg #[.int .i64 n.op, .int .i64 n.a, .int .i64 n.b, .int .i64 n.c, .int .i64 n.num, .string n.text]] w (Lf.Bt w (Lw.form n)) := by
  obtain ⟨w0, hw0⟩ : ∃ w0, w0 = w.alloc (.cells #[.int .i64 n.op, .int .i64 n.a, .int .i64 n.b, .int .i64 n.c, .int .i64 n.num, .string n.text] 55) := ⟨_, rfl⟩
  have B0 : Below w.heap.size w w0 := by rw [hw0]; exact (Below.refl _ _).alloc (Nat.le_refl _) _
  have X0 : Own w0 w.heap.size 55 [.int .i64 n.op, .int .i64 n.a, .int .i64 n.b, .int .i64 n.c, .int .i64 n.num, .string n.text] := by rw [hw0]; exact ⟨_, heap_alloc_new _ _, rfl⟩
  have x1 := X0.cell 1
  have x2 := X0.cell 2
  have x3 := X0.cell 3
  simp only [List.getElem?_cons_zero, List.getElem?_cons_succ] at x1 x2 x3
  have z0 : w.heap.size < w0.heap.size := X0.lt
  have z1 : w.heap.size < w0.heap.size + 1 := by omega
  have z2 : w.heap.size < w0.heap.size + 1 + 1 := by omega
  have z3 : w.heap.size < w0.heap.size + 2 := by omega
  obtain ⟨F, hF⟩ : ∃ F, F = Lw.form n := ⟨_, rfl⟩
  rw [← hF]
  have HF0 := hide hF
  clear hF
  go_enter Try.func51, Try.ntmps51
  go_upto_region 1 with fail
  rw [← hw0]
  clear hw0
  go_cut [3, 4, 5] from 7 to 15 (fun s3 s4 s5 wx => ∃ pa pb pc : Nat, s3 = .pointer (some ⟨pa, 0, none⟩) ∧ s4 = .pointer (some ⟨pb, 0, none⟩) ∧ s5 = .pointer (some ⟨pc, 0, none⟩) ∧ Own wx pa 62 [.int .i64 n.a] ∧ Own wx pb 62 [.int .i64 n.b] ∧ Own wx pc 62 [.int .i64 n.c] ∧ Below w0.heap.size w0 wx)
  case first =>
    go_region_held_law (fun w' => w'.cell? ⟨w.heap.size, 1, none⟩ = some (.int .i64 n.a) ∧ w'.cell? ⟨w.heap.size, 2, none⟩ = some (.int .i64 n.b) ∧ w'.cell? ⟨w.heap.size, 3, none⟩ = some (.int .i64 n.c))
      (first | assumption | (simp [go_sem, x1, x2, x3, z0, z1, z2, z3]; done)) (fail)
    all_goals
      go_wp2_with fail
      go_meet
      refine ⟨_, _, _, rfl, rfl, rfl, ?_, ?_, ?_, ?_⟩
      · refine Own.drew ?_
        first | exact Lf.own3_0 (by simp) | exact Lf.own3_1 (by simp) | exact Lf.own3_2 (by simp)
      · refine Own.drew ?_
        first | exact Lf.own3_0 (by simp) | exact Lf.own3_1 (by simp) | exact Lf.own3_2 (by simp)
      · refine Own.drew ?_
        first | exact Lf.own3_0 (by simp) | exact Lf.own3_1 (by simp) | exact Lf.own3_2 (by simp)
      · exact ((((Below.refl _ _).alloc (Nat.le_refl _) _).alloc (by simp) _).alloc (by simp; omega) _).drew
  case rest =>
    obtain ⟨pa, pb, pc, rfl, rfl, rfl, hA, hB, hC, hb⟩ := hcut
    have BX : Below w.heap.size w wc := B0.trans (hb.mono B0.size)
    have XX := X0.below hb X0.lt
    have y0 := XX.cell 0
    have y1_ := XX.cell 1
    have y2_ := XX.cell 2
    have y3 := XX.cell 3
    have y4 := XX.cell 4
    have y5 := XX.cell 5
    have a0 := hA.cell 0
    have b0 := hB.cell 0
    have c0 := hC.cell 0
    have la := hA.lt
    have lb := hB.lt
    have lc_ := hC.lt
    have lx := XX.lt
    simp only [List.getElem?_cons_zero, List.getElem?_cons_succ] at y0 y1_ y2_ y3 y4 y5 a0 b0 c0
    clear x1 x2 x3 z0 z1 z2 z3 X0 B0 hb
    have hF := unhide HF0
    clear HF0
    by_cases h1 : n.op = 1
    · rw [Lw.form_1 h1] at hF
      have HF := hide hF
      clear hF
      rw [h1] at y0
      go_wp2_with fail
      refine (over_any 1 none 0 0 _).mono ?_
      rintro e wk ⟨rfl, hwk⟩
      rw [hwk]
      clear hwk
      go_wp2_with fail
      go_ret
      have hF := unhide HF
      subst hF
      
      refine ⟨_, [], rfl, Lf.fv_self _ _ 1, ?_, ?_, BX⟩
      · simp <;> omega
      · intro b hb
        simp only [List.mem_cons, List.not_mem_nil, or_false, List.append_nil, List.nil_append, List.cons_append] at hb <;> omega
    by_cases h5 : n.op = 5
    · rw [Lw.form_5 h5] at hF
      have HF := hide hF
      clear hF
      rw [h5] at y0
      obtain ⟨w1, hw1⟩ : ∃ w1, w1 = wc.alloc (.cells #[Lf.iTree n.a, Lf.iTree n.b] 91) := ⟨_, rfl⟩
      have b1 : Below wc.heap.size wc w1 := by rw [hw1]; exact (Below.refl _ _).alloc (Nat.le_refl _) _
      have z1 := hide (show w1.heap.size = wc.heap.size + 1 by rw [hw1]; simp)
      have B1 : Below w.heap.size w w1 := BX.trans (b1.mono BX.size)
      have p1 : Lf.Pt w1 w.heap.size (.slice (some ⟨wc.heap.size, 0, none⟩) 2 2) [Lf.iTree n.a, Lf.iTree n.b] := .inr ⟨_, rfl, BX.size, by rw [hw1]; exact ⟨_, heap_alloc_new _ _, rfl⟩⟩
      go_wp2_with fail
      rw [← hw1]
      clear hw1
      refine (over_any 3 (some ⟨wc.heap.size, 0, none⟩) 2 2 _).mono ?_
      rintro e wk ⟨rfl, hwk⟩
      rw [hwk]
      clear hwk
      go_wp2_with fail
      go_ret
      have hF := unhide HF
      subst hF
      have z1 := unhide z1
      refine ⟨_, [] ++ [], rfl, Lf.fv_over p1 (Lf.fv_l2 (Lf.fv_tree _ _ n.a) (Lf.fv_tree _ _ n.b)), ?_, ?_, B1⟩
      · simp <;> omega
      · intro b hb
        simp only [List.mem_cons, List.not_mem_nil, or_false, List.append_nil, List.nil_append, List.cons_append] at hb <;> omega
    by_cases h6 : n.op = 6
    · rw [Lw.form_6 h6] at hF
      have HF := hide hF
      clear hF
      rw [h6] at y0
      obtain ⟨w1, hw1⟩ : ∃ w1, w1 = wc.alloc (.cells #[Lf.iTree n.a, Lf.iTree n.b] 91) := ⟨_, rfl⟩
      have b1 : Below wc.heap.size wc w1 := by rw [hw1]; exact (Below.refl _ _).alloc (Nat.le_refl _) _
      have z1 := hide (show w1.heap.size = wc.heap.size + 1 by rw [hw1]; simp)
      have B1 : Below w.heap.size w w1 := BX.trans (b1.mono BX.size)
      have p1 : Lf.Pt w1 w.heap.size (.slice (some ⟨wc.heap.size, 0, none⟩) 2 2) [Lf.iTree n.a, Lf.iTree n.b] := .inr ⟨_, rfl, BX.size, by rw [hw1]; exact ⟨_, heap_alloc_new _ _, rfl⟩⟩
      go_wp2_with fail
      rw [← hw1]
      clear hw1
      refine (over_any 4 (some ⟨wc.heap.size, 0, none⟩) 2 2 _).mono ?_
      rintro e wk ⟨rfl, hwk⟩
      rw [hwk]
      clear hwk
      go_wp2_with fail
      go_ret
      have hF := unhide HF
      subst hF
      have z1 := unhide z1
      refine ⟨_, [] ++ [], rfl, Lf.fv_over p1 (Lf.fv_l2 (Lf.fv_tree _ _ n.a) (Lf.fv_tree _ _ n.b)), ?_, ?_, B1⟩
      · simp <;> omega
      · intro b hb
        simp only [List.mem_cons, List.not_mem_nil, or_false, List.append_nil, List.nil_append, List.cons_append] at hb <;> omega
    by_cases h7 : n.op = 7
    · rw [Lw.form_7 h7] at hF
      have HF := hide hF
      clear hF
      rw [h7] at y0
      obtain ⟨w1, hw1⟩ : ∃ w1, w1 = wc.alloc (.cells #[Lf.iTree n.a, Lf.iTree n.b] 91) := ⟨_, rfl⟩
      have b1 : Below wc.heap.size wc w1 := by rw [hw1]; exact (Below.refl _ _).alloc (Nat.le_refl _) _
      have z1 := hide (show w1.heap.size = wc.heap.size + 1 by rw [hw1]; simp)
      have B1 : Below w.heap.size w w1 := BX.trans (b1.mono BX.size)
      have p1 : Lf.Pt w1 w.heap.size (.slice (some ⟨wc.heap.size, 0, none⟩) 2 2) [Lf.iTree n.a, Lf.iTree n.b] := .inr ⟨_, rfl, BX.size, by rw [hw1]; exact ⟨_, heap_alloc_new _ _, rfl⟩⟩
      go_wp2_with fail
      rw [← hw1]
      clear hw1
      refine (over_any 5 (some ⟨wc.heap.size, 0, none⟩) 2 2 _).mono ?_
      rintro e wk ⟨rfl, hwk⟩
      rw [hwk]
      clear hwk
      go_wp2_with fail
      go_ret
      have hF := unhide HF
      subst hF
      have z1 := unhide z1
      refine ⟨_, [] ++ [], rfl, Lf.fv_over p1 (Lf.fv_l2 (Lf.fv_tree _ _ n.a) (Lf.fv_tree _ _ n.b)), ?_, ?_, B1⟩
      · simp <;> omega
      · intro b hb
        simp only [List.mem_cons, List.not_mem_nil, or_false, List.append_nil, List.nil_append, List.cons_append] at hb <;> omega
    by_cases h8 : n.op = 8
    · rw [Lw.form_8 h8] at hF
      have HF := hide hF
      clear hF
      rw [h8] at y0
      go_wp2_with fail
      have KEEP := hide (show ∀ W, Below wc.heap.size wc W → (W.cell? ⟨pa, 0, none⟩ = some (.int .i64 n.a) ∧ W.cell? ⟨pb, 0, none⟩ = some (.int .i64 n.b) ∧ Below wc.heap.size wc W) from fun W hb => ⟨(hb.cell hA.lt).trans a0, (hb.cell hB.lt).trans b0, hb⟩)
      go_region_held_law (fun w' => w'.cell? ⟨pa, 0, none⟩ = some (.int .i64 n.a) ∧ w'.cell? ⟨pb, 0, none⟩ = some (.int .i64 n.b) ∧ Below wc.heap.size wc w')
        (first | assumption | exact (unhide KEEP) _ (by assumption) | exact (unhide KEEP) _ (Below.refl _ _).drew | exact (unhide KEEP) _ (Ap.below_alloc (And.right (And.right (by assumption)))))
        (first
          | (go_at_call 84
             refine (constant_any (Lw.kind 2) _).mono ?_
             rintro e wn ⟨rfl, rc, zc, bc⟩
             have Bc : Below wc.heap.size wc wn := Below.trans (And.right (And.right (by assumption))) (bc.mono (Below.size (B := wc.heap.size) (And.right (And.right (by assumption)))))
             have zc2 := hide zc
             clear zc
             try have fv1 := Lf.Fv.keep (Lf.Kf.below bc) _ fv1)
          | (go_at_call 85
             refine (truth_any n.b _).mono ?_
             rintro e wt ⟨v1, bl1, rfl, fv1, nd1, in1, bt⟩
             have Bt_ : Below wc.heap.size wc wt := Below.trans (And.right (And.right (by assumption))) (bt.mono (Below.size (B := wc.heap.size) (And.right (And.right (by assumption)))))
             obtain ⟨y1, y2, hy⟩ := Lf.fv_iface fv1 ⟨fun h => (by unfold Lw.truth Lw.over at h; cases h), fun a b h => (by unfold Lw.truth Lw.over at h; cases h)⟩
             subst hy
             have ND := hide nd1
             have IN := hide in1
             clear nd1 in1
             try have rc := rc.below bt)
          | (go_at_call 83
             refine (over_any 12 _ 3 3 _).mono ?_
             rintro e wo ⟨rfl, hwo⟩
             rw [hwo]
             clear hwo))
      all_goals
        go_wp2_with fail
        go_ret
        have hF := unhide HF
        subst hF
        first
        | (have z : wn.heap.size = wc.heap.size + 2 := unhide zc2
           have hs := bt.size
           exact Lf.bt3_8 (w := w) (W0 := wt) (BX.trans (Bt_.mono BX.size)) (Res.mono (B := wc.heap.size) rc BX.size) (Lf.Fv.mono (Nat.le_trans BX.size Bc.size) _ fv1) (unhide ND) (fun h => by have h2 := (unhide IN) _ h; omega) (fun b hb => by have h2 := (unhide IN) b hb; have h3 := BX.size; omega) (by have h3 := BX.size; omega))
        | (have z : wn.heap.size = wt.heap.size + 2 := unhide zc2
           have hs := bc.size
           exact Lf.bt3_8 (w := w) (W0 := wn) (BX.trans (Bc.mono BX.size)) (Res.mono (B := wt.heap.size) rc (Nat.le_trans BX.size Bt_.size)) (Lf.Fv.mono (B := wc.heap.size) BX.size _ fv1) (unhide ND) (fun h => by have h2 := (unhide IN) _ h; omega) (fun b hb => by have h2 : wc.heap.size ≤ b ∧ b < wt.heap.size := (unhide IN) b hb; have h3 := BX.size; omega) (by have h3 := BX.size; have h4 := Bt_.size; omega))
    by_cases h9 : n.op = 9
    · rw [Lw.form_9 h9] at hF
      have HF := hide hF
      clear hF
      rw [h9] at y0
      go_wp2_with fail
      have KEEP := hide (show ∀ W, Below wc.heap.size wc W → (W.cell? ⟨pa, 0, none⟩ = some (.int .i64 n.a) ∧ W.cell? ⟨pb, 0, none⟩ = some (.int .i64 n.b) ∧ Below wc.heap.size wc W) from fun W hb => ⟨(hb.cell hA.lt).trans a0, (hb.cell hB.lt).trans b0, hb⟩)
      go_region_held_law (fun w' => w'.cell? ⟨pa, 0, none⟩ = some (.int .i64 n.a) ∧ w'.cell? ⟨pb, 0, none⟩ = some (.int .i64 n.b) ∧ Below wc.heap.size wc w')
        (first | assumption | exact (unhide KEEP) _ (by assumption) | exact (unhide KEEP) _ (Below.refl _ _).drew | exact (unhide KEEP) _ (Ap.below_alloc (And.right (And.right (by assumption)))))
        (first
          | (go_at_call 84
             refine (constant_any (Lw.kind 1) _).mono ?_
             rintro e wn ⟨rfl, rc, zc, bc⟩
             have Bc : Below wc.heap.size wc wn := Below.trans (And.right (And.right (by assumption))) (bc.mono (Below.size (B := wc.heap.size) (And.right (And.right (by assumption)))))
             have zc2 := hide zc
             clear zc
             try have fv1 := Lf.Fv.keep (Lf.Kf.below bc) _ fv1)
          | (go_at_call 85
             refine (truth_any n.b _).mono ?_
             rintro e wt ⟨v1, bl1, rfl, fv1, nd1, in1, bt⟩
             have Bt_ : Below wc.heap.size wc wt := Below.trans (And.right (And.right (by assumption))) (bt.mono (Below.size (B := wc.heap.size) (And.right (And.right (by assumption)))))
             obtain ⟨y1, y2, hy⟩ := Lf.fv_iface fv1 ⟨fun h => (by unfold Lw.truth Lw.over at h; cases h), fun a b h => (by unfold Lw.truth Lw.over at h; cases h)⟩
             subst hy
             have ND := hide nd1
             have IN := hide in1
             clear nd1 in1
             try have rc := rc.below bt)
          | (go_at_call 83
             refine (over_any 12 _ 3 3 _).mono ?_
             rintro e wo ⟨rfl, hwo⟩
             rw [hwo]
             clear hwo))
      all_goals
        go_wp2_with fail
        go_ret
        have hF := unhide HF
        subst hF
        first
        | (have z : wn.heap.size = wc.heap.size + 2 := unhide zc2
           have hs := bt.size
           exact Lf.bt3_9 (w := w) (W0 := wt) (BX.trans (Bt_.mono BX.size)) (Res.mono (B := wc.heap.size) rc BX.size) (Lf.Fv.mono (Nat.le_trans BX.size Bc.size) _ fv1) (unhide ND) (fun h => by have h2 := (unhide IN) _ h; omega) (fun b hb => by have h2 := (unhide IN) b hb; have h3 := BX.size; omega) (by have h3 := BX.size; omega))
        | (have z : wn.heap.size = wt.heap.size + 2 := unhide zc2
           have hs := bc.size
           exact Lf.bt3_9 (w := w) (W0 := wn) (BX.trans (Bc.mono BX.size)) (Res.mono (B := wt.heap.size) rc (Nat.le_trans BX.size Bt_.size)) (Lf.Fv.mono (B := wc.heap.size) BX.size _ fv1) (unhide ND) (fun h => by have h2 := (unhide IN) _ h; omega) (fun b hb => by have h2 : wc.heap.size ≤ b ∧ b < wt.heap.size := (unhide IN) b hb; have h3 := BX.size; omega) (by have h3 := BX.size; have h4 := Bt_.size; omega))
    by_cases h10 : n.op = 10
    · rw [Lw.form_10 h10] at hF
      have HF := hide hF
      clear hF
      rw [h10] at y0
      obtain ⟨w1, hw1⟩ : ∃ w1, w1 = wc.alloc (.cells #[Lf.iTree n.a, Lf.iTree n.b] 91) := ⟨_, rfl⟩
      have b1 : Below wc.heap.size wc w1 := by rw [hw1]; exact (Below.refl _ _).alloc (Nat.le_refl _) _
      have z1 := hide (show w1.heap.size = wc.heap.size + 1 by rw [hw1]; simp)
      have B1 : Below w.heap.size w w1 := BX.trans (b1.mono BX.size)
      have p1 : Lf.Pt w1 w.heap.size (.slice (some ⟨wc.heap.size, 0, none⟩) 2 2) [Lf.iTree n.a, Lf.iTree n.b] := .inr ⟨_, rfl, BX.size, by rw [hw1]; exact ⟨_, heap_alloc_new _ _, rfl⟩⟩
      go_wp2_with fail
      try rw [← hw1]
      clear hw1
      go_ret
      have hF := unhide HF
      subst hF
      have z1 := unhide z1
      refine ⟨_, [] ++ [], rfl, ⟨_, _, _, _, rfl, Lf.res_nil _ _, p1, Lf.fv_l2 (Lf.fv_tree _ _ n.a) (Lf.fv_tree _ _ n.b), rfl⟩, ?_, ?_, B1⟩
      · simp <;> omega
      · intro b hb
        simp only [List.mem_cons, List.not_mem_nil, or_false, List.append_nil, List.nil_append, List.cons_append] at hb <;> omega
    by_cases h11 : n.op = 11
    · rw [Lw.form_11 h11] at hF
      have HF := hide hF
      clear hF
      rw [h11] at y0
      obtain ⟨w1, hw1⟩ : ∃ w1, w1 = wc.alloc (.cells #[Lf.iTree n.a, Lf.iTree n.b] 91) := ⟨_, rfl⟩
      have b1 : Below wc.heap.size wc w1 := by rw [hw1]; exact (Below.refl _ _).alloc (Nat.le_refl _) _
      have z1 := hide (show w1.heap.size = wc.heap.size + 1 by rw [hw1]; simp)
      have B1 : Below w.heap.size w w1 := BX.trans (b1.mono BX.size)
      have p1 : Lf.Pt w1 w.heap.size (.slice (some ⟨wc.heap.size, 0, none⟩) 2 2) [Lf.iTree n.a, Lf.iTree n.b] := .inr ⟨_, rfl, BX.size, by rw [hw1]; exact ⟨_, heap_alloc_new _ _, rfl⟩⟩
      go_wp2_with fail
      rw [← hw1]
      clear hw1
      refine (over_any 7 (some ⟨wc.heap.size, 0, none⟩) 2 2 _).mono ?_
      rintro e wk ⟨rfl, hwk⟩
      rw [hwk]
      clear hwk
      go_wp2_with fail
      go_ret
      have hF := unhide HF
      subst hF
      have z1 := unhide z1
      refine ⟨_, [] ++ [], rfl, Lf.fv_over p1 (Lf.fv_l2 (Lf.fv_tree _ _ n.a) (Lf.fv_tree _ _ n.b)), ?_, ?_, B1⟩
      · simp <;> omega
      · intro b hb
        simp only [List.mem_cons, List.not_mem_nil, or_false, List.append_nil, List.nil_append, List.cons_append] at hb <;> omega
    by_cases h12 : n.op = 12
    · rw [Lw.form_12 h12] at hF
      have HF := hide hF
      clear hF
      rw [h12] at y0
      obtain ⟨w1, hw1⟩ : ∃ w1, w1 = wc.alloc (.cells #[Lf.iTree n.a] 91) := ⟨_, rfl⟩
      have b1 : Below wc.heap.size wc w1 := by rw [hw1]; exact (Below.refl _ _).alloc (Nat.le_refl _) _
      have z1 := hide (show w1.heap.size = wc.heap.size + 1 by rw [hw1]; simp)
      have B1 : Below w.heap.size w w1 := BX.trans (b1.mono BX.size)
      have p1 : Lf.Pt w1 w.heap.size (.slice (some ⟨wc.heap.size, 0, none⟩) 1 1) [Lf.iTree n.a] := .inr ⟨_, rfl, BX.size, by rw [hw1]; exact ⟨_, heap_alloc_new _ _, rfl⟩⟩
      go_wp2_with fail
      rw [← hw1]
      clear hw1
      refine (over_any 8 (some ⟨wc.heap.size, 0, none⟩) 1 1 _).mono ?_
      rintro e wk ⟨rfl, hwk⟩
      rw [hwk]
      clear hwk
      go_wp2_with fail
      go_ret
      have hF := unhide HF
      subst hF
      have z1 := unhide z1
      refine ⟨_, [], rfl, Lf.fv_over p1 (Lf.fv_l1 (Lf.fv_tree _ _ n.a)), ?_, ?_, B1⟩
      · simp <;> omega
      · intro b hb
        simp only [List.mem_cons, List.not_mem_nil, or_false, List.append_nil, List.nil_append, List.cons_append] at hb <;> omega
    by_cases h13 : n.op = 13
    · rw [Lw.form_13 h13] at hF
      have HF := hide hF
      clear hF
      rw [h13] at y0
      obtain ⟨w1, hw1⟩ : ∃ w1, w1 = wc.alloc (.cells #[Lf.iTree n.a] 91) := ⟨_, rfl⟩
      have b1 : Below wc.heap.size wc w1 := by rw [hw1]; exact (Below.refl _ _).alloc (Nat.le_refl _) _
      have z1 := hide (show w1.heap.size = wc.heap.size + 1 by rw [hw1]; simp)
      have B1 : Below w.heap.size w w1 := BX.trans (b1.mono BX.size)
      have p1 : Lf.Pt w1 w.heap.size (.slice (some ⟨wc.heap.size, 0, none⟩) 1 1) [Lf.iTree n.a] := .inr ⟨_, rfl, BX.size, by rw [hw1]; exact ⟨_, heap_alloc_new _ _, rfl⟩⟩
      go_wp2_with fail
      rw [← hw1]
      clear hw1
      refine (over_any 9 (some ⟨wc.heap.size, 0, none⟩) 1 1 _).mono ?_
      rintro e wk ⟨rfl, hwk⟩
      rw [hwk]
      clear hwk
      go_wp2_with fail
      go_ret
      have hF := unhide HF
      subst hF
      have z1 := unhide z1
      refine ⟨_, [], rfl, Lf.fv_over p1 (Lf.fv_l1 (Lf.fv_tree _ _ n.a)), ?_, ?_, B1⟩
      · simp <;> omega
      · intro b hb
        simp only [List.mem_cons, List.not_mem_nil, or_false, List.append_nil, List.nil_append, List.cons_append] at hb <;> omega
    by_cases h14 : n.op = 14
    · rw [Lw.form_14 h14] at hF
      have HF := hide hF
      clear hF
      rw [h14] at y0
      obtain ⟨w1, hw1⟩ : ∃ w1, w1 = wc.alloc (.cells #[Lf.iTree n.a] 91) := ⟨_, rfl⟩
      have b1 : Below wc.heap.size wc w1 := by rw [hw1]; exact (Below.refl _ _).alloc (Nat.le_refl _) _
      have z1 := hide (show w1.heap.size = wc.heap.size + 1 by rw [hw1]; simp)
      have B1 : Below w.heap.size w w1 := BX.trans (b1.mono BX.size)
      have p1 : Lf.Pt w1 w.heap.size (.slice (some ⟨wc.heap.size, 0, none⟩) 1 1) [Lf.iTree n.a] := .inr ⟨_, rfl, BX.size, by rw [hw1]; exact ⟨_, heap_alloc_new _ _, rfl⟩⟩
      go_wp2_with fail
      rw [← hw1]
      clear hw1
      refine (over_any 10 (some ⟨wc.heap.size, 0, none⟩) 1 1 _).mono ?_
      rintro e wk ⟨rfl, hwk⟩
      rw [hwk]
      clear hwk
      go_wp2_with fail
      go_ret
      have hF := unhide HF
      subst hF
      have z1 := unhide z1
      refine ⟨_, [], rfl, Lf.fv_over p1 (Lf.fv_l1 (Lf.fv_tree _ _ n.a)), ?_, ?_, B1⟩
      · simp <;> omega
      · intro b hb
        simp only [List.mem_cons, List.not_mem_nil, or_false, List.append_nil, List.nil_append, List.cons_append] at hb <;> omega
    by_cases h17 : n.op = 17
    · rw [Lw.form_17 h17] at hF
      have HF := hide hF
      clear hF
      rw [h17] at y0
      obtain ⟨w1, hw1⟩ : ∃ w1, w1 = wc.alloc (.cells #[.int .i64 4, .int .i64 0, .string n.text, .string ⟨#[]⟩, .int .i64 0] 120) := ⟨_, rfl⟩
      have b1 : Below wc.heap.size wc w1 := by rw [hw1]; exact (Below.refl _ _).alloc (Nat.le_refl _) _
      have z1 := hide (show w1.heap.size = wc.heap.size + 1 by rw [hw1]; simp)
      have B1 : Below w.heap.size w w1 := BX.trans (b1.mono BX.size)
      have r1 : Res w1 w.heap.size (.slice (some ⟨wc.heap.size, 0, none⟩) 1 1) [⟨4, 0, n.text, ByteArray.empty, 0⟩] := by rw [hw1]; exact one_cell wc w.heap.size wc.heap.size ⟨4, 0, n.text, ByteArray.empty, 0⟩ rfl BX.size
      obtain ⟨w2, hw2⟩ : ∃ w2, w2 = w1.alloc (.cells #[Lf.iTree n.a, Lf.iTree n.b] 91) := ⟨_, rfl⟩
      have b2 : Below w1.heap.size w1 w2 := by rw [hw2]; exact (Below.refl _ _).alloc (Nat.le_refl _) _
      have z2 := hide (show w2.heap.size = w1.heap.size + 1 by rw [hw2]; simp)
      have B2 : Below w.heap.size w w2 := B1.trans (b2.mono B1.size)
      have p2 : Lf.Pt w2 w.heap.size (.slice (some ⟨w1.heap.size, 0, none⟩) 2 2) [Lf.iTree n.a, Lf.iTree n.b] := .inr ⟨_, rfl, B1.size, by rw [hw2]; exact ⟨_, heap_alloc_new _ _, rfl⟩⟩
      have r1 := r1.below b2
      rw [hw1] at hw2
      rw [unhide z1] at p2
      go_wp2_with fail
      try rw [← hw2]
      clear hw2
      go_ret
      have hF := unhide HF
      subst hF
      have z1 := unhide z1
      have z2 := unhide z2
      refine ⟨_, [wc.heap.size] ++ ([] ++ []), rfl, ⟨_, _, _, _, rfl, r1, p2, Lf.fv_l2 (Lf.fv_tree _ _ n.a) (Lf.fv_tree _ _ n.b), rfl⟩, ?_, ?_, B2⟩
      · simp <;> omega
      · intro b hb
        simp only [List.mem_cons, List.not_mem_nil, or_false, List.append_nil, List.nil_append, List.cons_append] at hb <;> omega
    by_cases h18 : n.op = 18
    · rw [Lw.form_18 h18] at hF
      have HF := hide hF
      clear hF
      rw [h18] at y0
      obtain ⟨w1, hw1⟩ : ∃ w1, w1 = wc.alloc (.cells #[Lf.iTree n.a, Lf.iTree n.b, Lf.iTree n.c] 91) := ⟨_, rfl⟩
      have b1 : Below wc.heap.size wc w1 := by rw [hw1]; exact (Below.refl _ _).alloc (Nat.le_refl _) _
      have z1 := hide (show w1.heap.size = wc.heap.size + 1 by rw [hw1]; simp)
      have B1 : Below w.heap.size w w1 := BX.trans (b1.mono BX.size)
      have p1 : Lf.Pt w1 w.heap.size (.slice (some ⟨wc.heap.size, 0, none⟩) 3 3) [Lf.iTree n.a, Lf.iTree n.b, Lf.iTree n.c] := .inr ⟨_, rfl, BX.size, by rw [hw1]; exact ⟨_, heap_alloc_new _ _, rfl⟩⟩
      go_wp2_with fail
      rw [← hw1]
      clear hw1
      refine (over_any 12 (some ⟨wc.heap.size, 0, none⟩) 3 3 _).mono ?_
      rintro e wk ⟨rfl, hwk⟩
      rw [hwk]
      clear hwk
      go_wp2_with fail
      go_ret
      have hF := unhide HF
      subst hF
      have z1 := unhide z1
      refine ⟨_, [] ++ ([] ++ []), rfl, Lf.fv_over p1 (Lf.fv_l3 (Lf.fv_tree _ _ n.a) (Lf.fv_tree _ _ n.b) (Lf.fv_tree _ _ n.c)), ?_, ?_, B1⟩
      · simp <;> omega
      · intro b hb
        simp only [List.mem_cons, List.not_mem_nil, or_false, List.append_nil, List.nil_append, List.cons_append] at hb <;> omega
    by_cases h19 : n.op = 19
    · rw [Lw.form_19 h19] at hF
      have HF := hide hF
      clear hF
      rw [h19] at y0
      obtain ⟨w1, hw1⟩ : ∃ w1, w1 = wc.alloc (.cells #[Lf.iTree n.a, Lf.iTree n.b] 91) := ⟨_, rfl⟩
      have b1 : Below wc.heap.size wc w1 := by rw [hw1]; exact (Below.refl _ _).alloc (Nat.le_refl _) _
      have z1 := hide (show w1.heap.size = wc.heap.size + 1 by rw [hw1]; simp)
      have B1 : Below w.heap.size w w1 := BX.trans (b1.mono BX.size)
      have p1 : Lf.Pt w1 w.heap.size (.slice (some ⟨wc.heap.size, 0, none⟩) 2 2) [Lf.iTree n.a, Lf.iTree n.b] := .inr ⟨_, rfl, BX.size, by rw [hw1]; exact ⟨_, heap_alloc_new _ _, rfl⟩⟩
      go_wp2_with fail
      try rw [← hw1]
      clear hw1
      go_ret
      have hF := unhide HF
      subst hF
      have z1 := unhide z1
      refine ⟨_, ([] ++ []) ++ [], rfl, ⟨_, _, _, _, _, rfl, p1, Lf.fv_l2 (Lf.fv_tree _ _ n.a) (Lf.fv_tree _ _ n.b), Lf.fv_l1 (Lf.fv_tree _ _ n.c), rfl⟩, ?_, ?_, B1⟩
      · simp <;> omega
      · intro b hb
        simp only [List.mem_cons, List.not_mem_nil, or_false, List.append_nil, List.nil_append, List.cons_append] at hb <;> omega
    by_cases h20 : n.op = 20
    · rw [Lw.form_20 h20] at hF
      have HF := hide hF
      clear hF
      rw [h20] at y0
      obtain ⟨w1, hw1⟩ : ∃ w1, w1 = wc.alloc (.cells #[Lf.iTree n.a] 91) := ⟨_, rfl⟩
      have b1 : Below wc.heap.size wc w1 := by rw [hw1]; exact (Below.refl _ _).alloc (Nat.le_refl _) _
      have z1 := hide (show w1.heap.size = wc.heap.size + 1 by rw [hw1]; simp)
      have B1 : Below w.heap.size w w1 := BX.trans (b1.mono BX.size)
      have p1 : Lf.Pt w1 w.heap.size (.slice (some ⟨wc.heap.size, 0, none⟩) 1 1) [Lf.iTree n.a] := .inr ⟨_, rfl, BX.size, by rw [hw1]; exact ⟨_, heap_alloc_new _ _, rfl⟩⟩
      go_wp2_with fail
      try rw [← hw1]
      clear hw1
      go_ret
      have hF := unhide HF
      subst hF
      have z1 := unhide z1
      refine ⟨_, [] ++ [], rfl, ⟨_, _, _, _, _, rfl, p1, Lf.fv_l1 (Lf.fv_tree _ _ n.a), Lf.fv_l1 (Lf.fv_tree _ _ n.b), rfl⟩, ?_, ?_, B1⟩
      · simp <;> omega
      · intro b hb
        simp only [List.mem_cons, List.not_mem_nil, or_false, List.append_nil, List.nil_append, List.cons_append] at hb <;> omega
    by_cases h21 : n.op = 21
    · rw [Lw.form_21 h21] at hF
      have HF := hide hF
      clear hF
      rw [h21] at y0
      go_wp2_with fail
      go_ret
      have hF := unhide HF
      subst hF
      
      refine ⟨_, [], rfl, ⟨rfl, rfl⟩, ?_, ?_, BX⟩
      · simp <;> omega
      · intro b hb
        simp only [List.mem_cons, List.not_mem_nil, or_false, List.append_nil, List.nil_append, List.cons_append] at hb <;> omega
    by_cases h22 : n.op = 22
    · rw [Lw.form_22 h22] at hF
      have HF := hide hF
      clear hF
      rw [h22] at y0
      go_wp2_with fail
      refine (callForm_any n.text _).mono ?_
      rintro e w1 ⟨v1, bl1, rfl, fv1, nd1, in1, b1⟩
      obtain ⟨y1, y2, hy⟩ := Lf.fv_iface fv1 (Lf.call_form _)
      subst hy
      have ND := hide nd1
      have IN := hide in1
      clear nd1 in1
      go_wp2_with fail
      go_ret
      have hF := unhide HF
      subst hF
      exact ⟨_, bl1, rfl, Lf.Fv.mono BX.size _ fv1, unhide ND, fun b hb => ⟨Nat.le_trans BX.size ((unhide IN) b hb).1, ((unhide IN) b hb).2⟩, BX.trans (b1.mono BX.size)⟩
    by_cases h23 : n.op = 23
    · rw [Lw.form_23 h23] at hF
      have HF := hide hF
      clear hF
      rw [h23] at y0
      go_wp2_with fail
      refine (callOneForm_any n.text n.a _).mono ?_
      rintro e w1 ⟨v1, bl1, rfl, fv1, nd1, in1, b1⟩
      obtain ⟨y1, y2, hy⟩ := Lf.fv_iface fv1 (Lf.one_form _ _)
      subst hy
      have ND := hide nd1
      have IN := hide in1
      clear nd1 in1
      go_wp2_with fail
      go_ret
      have hF := unhide HF
      subst hF
      exact ⟨_, bl1, rfl, Lf.Fv.mono BX.size _ fv1, unhide ND, fun b hb => ⟨Nat.le_trans BX.size ((unhide IN) b hb).1, ((unhide IN) b hb).2⟩, BX.trans (b1.mono BX.size)⟩
    by_cases h24 : n.op = 24
    · rw [Lw.form_24 h24] at hF
      have HF := hide hF
      clear hF
      rw [h24] at y0
      go_wp2_with fail
      refine (eachDone_any 7 _).mono ?_
      rintro e w1 ⟨v1, bl1, rfl, fv1, nd1, in1, b1⟩
      obtain ⟨y1, y2, hy⟩ := Lf.fv_iface fv1 (⟨fun h => (by unfold Lw.over at h; cases h), fun a b h => (by unfold Lw.over at h; cases h)⟩)
      subst hy
      have ND := hide nd1
      have IN := hide in1
      clear nd1 in1
      go_wp2_with fail
      go_ret
      have hF := unhide HF
      subst hF
      exact ⟨_, bl1, rfl, Lf.Fv.mono BX.size _ fv1, unhide ND, fun b hb => ⟨Nat.le_trans BX.size ((unhide IN) b hb).1, ((unhide IN) b hb).2⟩, BX.trans (b1.mono BX.size)⟩
    by_cases h2 : n.op = 2
    · rw [Lw.form_2 h2] at hF
      have HF := hide hF
      clear hF
      rw [h2] at y0
      go_wp2_with fail
      refine (cellOf_2 n _).mono ?_
      rintro e w1 ⟨rfl, b1⟩
      have B1 : Below w.heap.size w w1 := BX.trans (b1.mono BX.size)
      have z1 := hide (show True from trivial)
      go_wp2_with fail
      refine (constant_any ⟨3, n.num, ByteArray.empty, ByteArray.empty, 0⟩ _).mono ?_
      rintro e w2 ⟨rfl, r2, y2, b2⟩
      have z2 := hide y2
      have B2 : Below w.heap.size w w2 := B1.trans (b2.mono B1.size)
      have r2 := r2.mono (show w.heap.size ≤ w1.heap.size from B1.size)
      have g2 : w.heap.size ≤ w1.heap.size + 1 := Nat.le_trans B1.size (Nat.le_succ _)
      have l2 : w1.heap.size + 1 < w2.heap.size := by omega
      clear y2
      go_wp2_with fail
      go_ret
      have hF := unhide HF
      subst hF
      have z1 := unhide z1
      have z2 := unhide z2
      refine ⟨_, [w1.heap.size + 1], rfl, Lf.fv_con r2, ?_, ?_, B2⟩
      · simp <;> omega
      · intro b hb
        simp only [List.mem_cons, List.not_mem_nil, or_false, List.append_nil, List.nil_append, List.cons_append] at hb <;> omega
    by_cases h3 : n.op = 3
    · rw [Lw.form_3 h3] at hF
      have HF := hide hF
      clear hF
      rw [h3] at y0
      go_wp2_with fail
      refine (cellOf_3 n _).mono ?_
      rintro e w1 ⟨rfl, b1⟩
      have B1 : Below w.heap.size w w1 := BX.trans (b1.mono BX.size)
      have z1 := hide (show True from trivial)
      go_wp2_with fail
      refine (constant_any ⟨4, 0, n.text, ByteArray.empty, 0⟩ _).mono ?_
      rintro e w2 ⟨rfl, r2, y2, b2⟩
      have z2 := hide y2
      have B2 : Below w.heap.size w w2 := B1.trans (b2.mono B1.size)
      have r2 := r2.mono (show w.heap.size ≤ w1.heap.size from B1.size)
      have g2 : w.heap.size ≤ w1.heap.size + 1 := Nat.le_trans B1.size (Nat.le_succ _)
      have l2 : w1.heap.size + 1 < w2.heap.size := by omega
      clear y2
      go_wp2_with fail
      go_ret
      have hF := unhide HF
      subst hF
      have z1 := unhide z1
      have z2 := unhide z2
      refine ⟨_, [w1.heap.size + 1], rfl, Lf.fv_con r2, ?_, ?_, B2⟩
      · simp <;> omega
      · intro b hb
        simp only [List.mem_cons, List.not_mem_nil, or_false, List.append_nil, List.nil_append, List.cons_append] at hb <;> omega
    by_cases h15 : n.op = 15
    · rw [Lw.form_15 h15] at hF
      have HF := hide hF
      clear hF
      rw [h15] at y0
      go_wp2_with fail
      refine (cellOf_15 n _).mono ?_
      rintro e w1 ⟨rfl, b1⟩
      have B1 : Below w.heap.size w w1 := BX.trans (b1.mono BX.size)
      have z1 := hide (show True from trivial)
      go_wp2_with fail
      refine (constant_any (Lw.kind 5) _).mono ?_
      rintro e w2 ⟨rfl, r2, y2, b2⟩
      have z2 := hide y2
      have B2 : Below w.heap.size w w2 := B1.trans (b2.mono B1.size)
      have r2 := r2.mono (show w.heap.size ≤ w1.heap.size from B1.size)
      have g2 : w.heap.size ≤ w1.heap.size + 1 := Nat.le_trans B1.size (Nat.le_succ _)
      have l2 : w1.heap.size + 1 < w2.heap.size := by omega
      clear y2
      go_wp2_with fail
      go_ret
      have hF := unhide HF
      subst hF
      have z1 := unhide z1
      have z2 := unhide z2
      refine ⟨_, [w1.heap.size + 1], rfl, Lf.fv_con r2, ?_, ?_, B2⟩
      · simp <;> omega
      · intro b hb
        simp only [List.mem_cons, List.not_mem_nil, or_false, List.append_nil, List.nil_append, List.cons_append] at hb <;> omega
    by_cases h16 : n.op = 16
    · rw [Lw.form_16 h16] at hF
      have HF := hide hF
      clear hF
      rw [h16] at y0
      go_wp2_with fail
      refine (cellOf_16 n _).mono ?_
      rintro e w1 ⟨rfl, b1⟩
      have B1 : Below w.heap.size w w1 := BX.trans (b1.mono BX.size)
      have z1 := hide (show True from trivial)
      go_wp2_with fail
      refine (constant_any (Lw.kind 6) _).mono ?_
      rintro e w2 ⟨rfl, r2, y2, b2⟩
      have z2 := hide y2
      have B2 : Below w.heap.size w w2 := B1.trans (b2.mono B1.size)
      have r2 := r2.mono (show w.heap.size ≤ w1.heap.size from B1.size)
      have g2 : w.heap.size ≤ w1.heap.size + 1 := Nat.le_trans B1.size (Nat.le_succ _)
      have l2 : w1.heap.size + 1 < w2.heap.size := by omega
      clear y2
      go_wp2_with fail
      go_ret
      have hF := unhide HF
      subst hF
      have z1 := unhide z1
      have z2 := unhide z2
      refine ⟨_, [w1.heap.size + 1], rfl, Lf.fv_con r2, ?_, ?_, B2⟩
      · simp <;> omega
      · intro b hb
        simp only [List.mem_cons, List.not_mem_nil, or_false, List.append_nil, List.nil_append, List.cons_append] at hb <;> omega
    have h4 : n.op = 4 := by omega
    obtain ⟨hn0, hn1⟩ := hnum h4
    · rw [Lw.form_4 h4] at hF
      have HF := hide hF
      clear hF
      rw [h4] at y0
      go_wp2_with fail
      refine (cellOf_4 n _ hn0 hn1).mono ?_
      rintro e w1 ⟨rfl, b1⟩
      have B1 : Below w.heap.size w w1 := BX.trans (b1.mono BX.size)
      have z1 := hide (show True from trivial)
      go_wp2_with fail
      refine (constant_any (Lw.kind n.num) _).mono ?_
      rintro e w2 ⟨rfl, r2, y2, b2⟩
      have z2 := hide y2
      have B2 : Below w.heap.size w w2 := B1.trans (b2.mono B1.size)
      have r2 := r2.mono (show w.heap.size ≤ w1.heap.size from B1.size)
      have g2 : w.heap.size ≤ w1.heap.size + 1 := Nat.le_trans B1.size (Nat.le_succ _)
      have l2 : w1.heap.size + 1 < w2.heap.size := by omega
      clear y2
      go_wp2_with fail
      go_ret
      have hF := unhide HF
      subst hF
      have z1 := unhide z1
      have z2 := unhide z2
      refine ⟨_, [w1.heap.size + 1], rfl, Lf.fv_con r2, ?_, ?_, B2⟩
      · simp <;> omega
      · intro b hb
        simp only [List.mem_cons, List.not_mem_nil, or_false, List.append_nil, List.nil_append, List.cons_append] at hb <;> omega

end Go.Proofs.Ytmbefapdckhjdaa
