/-
  Both SizeOfs: how many nodes a core has.
-/
import Derived.Test.YtgjbibkppofjfaaCorS
namespace Go.Proofs.Ytgjbibkppofjfaa
open Go.RowKit
set_option linter.unusedVariables false
set_option linter.unusedSimpArgs false


namespace Co
def sizeOut (l : List Co) : Int × Int := if fault l ≠ 0 then (fault l, 0) else (0, (l.length : Int))
end Co

set_option maxRecDepth 100000 in
set_option maxHeartbeats 4000000 in
theorem specSizeOf_any (b : Nat) (l : List Co) (w : World) (hrow : Co.Row w b l) (hb : b < w.heap.size) (hn : l.length ≤ 1048576) (hsz : ∀ i, i < l.length → (l.getD i Co.zero).val.length ≤ 1048576) (hok : ∀ c ∈ l, c.ok) :
    Calls Try.prog 5 #[.slice (some ⟨b, 0, none⟩) l.length l.length] w fun e w' => e = .returned (.agg #[.int .i64 (Co.sizeOut l).1, .int .i64 (Co.sizeOut l).2]) ∧ Below w.heap.size w w' := by
  have HR := hide hrow
  have HS := hide hsz
  have HK := hide hok
  clear hrow hsz hok
  obtain ⟨w0, hw0⟩ : ∃ w0, w0 = w.alloc (.cells #[.int .i64 0, .int .i64 0] 25) := ⟨_, rfl⟩
  have B0 : Below w.heap.size w w0 := by rw [hw0]; exact (Below.refl _ _).alloc (Nat.le_refl _) _
  have O0 : Own w0 w.heap.size 25 [.int .i64 0, .int .i64 0] := by rw [hw0]; exact ⟨_, heap_alloc_new _ _, rfl⟩
  have HC := hide (specCoreFault_any b l w0 ((unhide HR).below B0 hb) (Nat.lt_of_lt_of_le hb B0.size) hn (unhide HS) (unhide HK))
  go_enter Try.func5, Try.ntmps5
  go_wp2_with fail
  rw [← hw0]
  clear hw0
  refine (unhide HC).mono ?_
  rintro e w1 ⟨rfl, hb1⟩
  have B1 : Below w.heap.size w w1 := B0.trans (hb1.mono B0.size)
  have O1 := O0.below hb1 O0.lt
  clear O0 B0 hb1 HC
  by_cases hf : Co.fault l = 0
  case neg =>
    have fin := hide (show Co.sizeOut l = (Co.fault l, 0) by unfold Co.sizeOut; rw [if_pos hf])
    generalize Co.fault l = q at *
    have g1 : (q != 0) = true := by simpa using hf
    obtain ⟨c0, c1⟩ := ires_co O1
    have z0 := O1.frozen 0
    have z1 := O1.frozen 1
    have O2 := hide ((O1.set 0 (.int .i64 q)).set 1 (.int .i64 0))
    go_wp2_with fail
    obtain ⟨q0, q1⟩ := ires_co (x := q) (y := 0) (unhide O2)
    clear c0 c1 z0 z1 O2
    have B2 : Below w.heap.size w ((w1.setCell ⟨w.heap.size, 0, none⟩ (.int .i64 q)).setCell ⟨w.heap.size, 1, none⟩ (.int .i64 0)) := (B1.setCell (Nat.le_refl _) _).setCell (Nat.le_refl _) _
    generalize (w1.setCell ⟨w.heap.size, 0, none⟩ (.int .i64 q)).setCell ⟨w.heap.size, 1, none⟩ (.int .i64 0) = WW at *
    refine bodyPost_ret (v := .agg #[.int .i64 q, .int .i64 0]) (by simp [results, Try.results5, go_sem, q0, q1]; try rfl) rfl ⟨by rw [unhide fin], B2⟩
  case pos =>
  have h900 := (Co.fault_parts hf).1
  have fin := hide (show Co.sizeOut l = (0, (l.length : Int)) by unfold Co.sizeOut; rw [if_neg (by simpa using hf)])
  rw [hf]
  clear hf
  obtain ⟨c0, c1⟩ := ires_co O1
  have z0 := O1.frozen 0
  have z1 := O1.frozen 1
  have O2 := hide ((O1.set 0 (.int .i64 0)).set 1 (.int .i64 (l.length : Int)))
  go_wp2_with fail
  obtain ⟨q0, q1⟩ := ires_co (x := 0) (y := (l.length : Int)) (unhide O2)
  clear c0 c1 z0 z1 O2
  have B2 : Below w.heap.size w ((w1.setCell ⟨w.heap.size, 0, none⟩ (.int .i64 0)).setCell ⟨w.heap.size, 1, none⟩ (.int .i64 (l.length : Int))) := (B1.setCell (Nat.le_refl _) _).setCell (Nat.le_refl _) _
  generalize (w1.setCell ⟨w.heap.size, 0, none⟩ (.int .i64 0)).setCell ⟨w.heap.size, 1, none⟩ (.int .i64 (l.length : Int)) = WW at *
  refine bodyPost_ret (v := .agg #[.int .i64 0, .int .i64 (l.length : Int)]) (by simp [results, Try.results5, go_sem, q0, q1]; try rfl) rfl ⟨by rw [unhide fin], B2⟩

set_option maxRecDepth 100000 in
set_option maxHeartbeats 4000000 in
theorem implSizeOf_any (b : Nat) (l : List Co) (w : World) (hrow : Co.Row w b l) (hb : b < w.heap.size) (hn : l.length ≤ 1048576) (hsz : ∀ i, i < l.length → (l.getD i Co.zero).val.length ≤ 1048576) (hok : ∀ c ∈ l, c.ok) :
    Calls Try.prog 7 #[.slice (some ⟨b, 0, none⟩) l.length l.length] w fun e w' => e = .returned (.agg #[.int .i64 (Co.sizeOut l).1, .int .i64 (Co.sizeOut l).2]) ∧ Below w.heap.size w w' := by
  have HR := hide hrow
  have HS := hide hsz
  have HK := hide hok
  clear hrow hsz hok
  obtain ⟨w0, hw0⟩ : ∃ w0, w0 = w.alloc (.cells #[.int .i64 0, .int .i64 0] 25) := ⟨_, rfl⟩
  have B0 : Below w.heap.size w w0 := by rw [hw0]; exact (Below.refl _ _).alloc (Nat.le_refl _) _
  have O0 : Own w0 w.heap.size 25 [.int .i64 0, .int .i64 0] := by rw [hw0]; exact ⟨_, heap_alloc_new _ _, rfl⟩
  have HC := hide (implCoreFault_any b l w0 ((unhide HR).below B0 hb) (Nat.lt_of_lt_of_le hb B0.size) hn (unhide HS) (unhide HK))
  go_enter Try.func7, Try.ntmps7
  go_wp2_with fail
  rw [← hw0]
  clear hw0
  refine (unhide HC).mono ?_
  rintro e w1 ⟨rfl, hb1⟩
  have B1 : Below w.heap.size w w1 := B0.trans (hb1.mono B0.size)
  have O1 := O0.below hb1 O0.lt
  clear O0 B0 hb1 HC
  by_cases hf : Co.fault l = 0
  case neg =>
    have fin := hide (show Co.sizeOut l = (Co.fault l, 0) by unfold Co.sizeOut; rw [if_pos hf])
    generalize Co.fault l = q at *
    have g1 : (q != 0) = true := by simpa using hf
    obtain ⟨c0, c1⟩ := ires_co O1
    have z0 := O1.frozen 0
    have z1 := O1.frozen 1
    have O2 := hide ((O1.set 0 (.int .i64 q)).set 1 (.int .i64 0))
    go_wp2_with fail
    obtain ⟨q0, q1⟩ := ires_co (x := q) (y := 0) (unhide O2)
    clear c0 c1 z0 z1 O2
    have B2 : Below w.heap.size w ((w1.setCell ⟨w.heap.size, 0, none⟩ (.int .i64 q)).setCell ⟨w.heap.size, 1, none⟩ (.int .i64 0)) := (B1.setCell (Nat.le_refl _) _).setCell (Nat.le_refl _) _
    generalize (w1.setCell ⟨w.heap.size, 0, none⟩ (.int .i64 q)).setCell ⟨w.heap.size, 1, none⟩ (.int .i64 0) = WW at *
    refine bodyPost_ret (v := .agg #[.int .i64 q, .int .i64 0]) (by simp [results, Try.results7, go_sem, q0, q1]; try rfl) rfl ⟨by rw [unhide fin], B2⟩
  case pos =>
  have h900 := (Co.fault_parts hf).1
  have fin := hide (show Co.sizeOut l = (0, (l.length : Int)) by unfold Co.sizeOut; rw [if_neg (by simpa using hf)])
  rw [hf]
  clear hf
  obtain ⟨c0, c1⟩ := ires_co O1
  have z0 := O1.frozen 0
  have z1 := O1.frozen 1
  have O2 := hide ((O1.set 0 (.int .i64 0)).set 1 (.int .i64 (l.length : Int)))
  go_wp2_with fail
  obtain ⟨q0, q1⟩ := ires_co (x := 0) (y := (l.length : Int)) (unhide O2)
  clear c0 c1 z0 z1 O2
  have B2 : Below w.heap.size w ((w1.setCell ⟨w.heap.size, 0, none⟩ (.int .i64 0)).setCell ⟨w.heap.size, 1, none⟩ (.int .i64 (l.length : Int))) := (B1.setCell (Nat.le_refl _) _).setCell (Nat.le_refl _) _
  generalize (w1.setCell ⟨w.heap.size, 0, none⟩ (.int .i64 0)).setCell ⟨w.heap.size, 1, none⟩ (.int .i64 (l.length : Int)) = WW at *
  refine bodyPost_ret (v := .agg #[.int .i64 0, .int .i64 (l.length : Int)]) (by simp [results, Try.results7, go_sem, q0, q1]; try rfl) rfl ⟨by rw [unhide fin], B2⟩

end Go.Proofs.Ytgjbibkppofjfaa
