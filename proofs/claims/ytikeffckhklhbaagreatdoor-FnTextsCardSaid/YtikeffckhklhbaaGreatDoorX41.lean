/-
  spec.l1Value of depth 1.
-/
import Derived.Test.YtikeffckhklhbaaGreatDoorX31
namespace Go.Proofs.YtikeffckhklhbaaGreatDoor
open Go.RowKit
set_option linter.unusedVariables false
set_option linter.unusedSimpArgs false

set_option maxRecDepth 100000 in
set_option maxHeartbeats 4000000 in
theorem Dv.says_1 : Dv.Says 1 1 6 900000000 := by
  intro bs len cap at_ a w h hat
  go_enter Tryz.func27, Tryz.ntmps27
  go_wp2_with fail
  refine (l1Next_any 10 bs len cap at_ a _ h (by decide) (by omega)).mono ?_
  rintro e w1 ⟨r, rfl, hr, S1, T1⟩
  have hr' : r < 10 := by have := hr (by decide); omega
  clear hr h
  obtain rfl | rfl | rfl | rfl | rfl | rfl | rfl | rfl | rfl | rfl : r = 0 ∨ r = 1 ∨ r = 2 ∨ r = 3 ∨ r = 4 ∨ r = 5 ∨ r = 6 ∨ r = 7 ∨ r = 8 ∨ r = 9 := by omega
  · clear hr'
    go_wp2_with fail
    go_ret
    exact Dv.out_one (c := ⟨0, 0, ByteArray.empty, ByteArray.empty, 0⟩) T1 S1 ⟨one_own w1 w1.heap.size w1.heap.size ⟨0, 0, ByteArray.empty, ByteArray.empty, 0⟩ rfl (Nat.le_refl _), by simp⟩ ((Below.refl _ _).alloc (Nat.le_refl _) _) rfl (Dv.ok_kind 0 (by decide)) (by decide) (by omega)
  · clear hr'
    go_wp2_with fail
    go_ret
    exact Dv.out_one (c := ⟨1, 0, ByteArray.empty, ByteArray.empty, 0⟩) T1 S1 ⟨one_own w1 w1.heap.size w1.heap.size ⟨1, 0, ByteArray.empty, ByteArray.empty, 0⟩ rfl (Nat.le_refl _), by simp⟩ ((Below.refl _ _).alloc (Nat.le_refl _) _) rfl (Dv.ok_kind 1 (by decide)) (by decide) (by omega)
  · clear hr'
    go_wp2_with fail
    go_ret
    exact Dv.out_one (c := ⟨2, 0, ByteArray.empty, ByteArray.empty, 0⟩) T1 S1 ⟨one_own w1 w1.heap.size w1.heap.size ⟨2, 0, ByteArray.empty, ByteArray.empty, 0⟩ rfl (Nat.le_refl _), by simp⟩ ((Below.refl _ _).alloc (Nat.le_refl _) _) rfl (Dv.ok_kind 2 (by decide)) (by decide) (by omega)
  · clear hr'
    go_wp2_with fail
    refine (l1Next_any 9 bs len cap _ a _ S1 (by decide) (by omega)).mono ?_
    rintro e w2 ⟨r1, rfl, hr1, S2, T2⟩
    have hr1' := hr1 (by decide)
    clear hr1
    go_wp2_with fail
    refine (l1Next_any 9 bs len cap _ a _ S2 (by decide) (by omega)).mono ?_
    rintro e w3 ⟨r2, rfl, hr2, S3, T3⟩
    have hr2' := hr2 (by decide)
    clear hr2
    go_wp2_with fail
    refine (l1Next_any 40 bs len cap _ a _ S3 (by decide) (by omega)).mono ?_
    rintro e w4 ⟨r3, rfl, hr3, S4, T4⟩
    have hr3' := hr3 (by decide)
    clear hr3
    have T14 : Tch w.heap.size bs w w4 := ((T1.trans (T2.mono T1.size)).trans (T3.mono (Nat.le_trans T1.size T2.size))).trans (T4.mono (Nat.le_trans T1.size (Nat.le_trans T2.size T3.size)))
    have hng : IntKind.i64.wrap (-(r3 : Int)) = -(r3 : Int) := IntWalk.i64_in _ ⟨by omega, by omega⟩
    have hlt := S4.lt
    have HPK := hide (l1Pick_any [(r1 : Int), (r2 : Int), -(r3 : Int), 1000000000000000] w4.heap.size bs len cap _ a (w4.alloc (.cells #[.int .i64 (r1 : Int), .int .i64 (r2 : Int), .int .i64 (-(r3 : Int)), .int .i64 1000000000000000] 2)) (S4.alloc _) ⟨_, heap_alloc_new _ _, rfl⟩ (by omega) (by simp) (by simp) (by omega))
    clear S1 S2 S3 T1 T2 T3 T4
    go_wp2_with fail
    refine (unhide HPK).mono ?_
    rintro e w5 ⟨⟨x, hx, rfl⟩, S5, T5⟩
    have hxb : -1000000000000000 ≤ x ∧ x ≤ 1000000000000000 := by
      simp only [List.mem_cons, List.not_mem_nil, or_false] at hx
      omega
    have T15 : Tch w.heap.size bs w w5 := (T14.trans ((Tch.of_below' ((Below.refl _ _).alloc (Nat.le_refl _) _)).mono T14.size)).trans (T5.mono (by simp; have := T14.size; omega))
    clear hx HPK T14 T5 S4 hng
    go_wp2_with fail
    refine (l1NumberO_any x _).mono ?_
    rintro e w6 ⟨s6, rfl, hr6, hb6⟩
    obtain ⟨a6, n6, c6, rfl⟩ := hr6.shape
    go_wp2_with fail
    go_ret
    exact Dv.out_one T15 S5 hr6 hb6 rfl (Dv.ok_num x hxb) (by decide) (by omega)
  · clear hr'
    go_wp2_with fail
    refine (l1Next_any 9 bs len cap _ a _ S1 (by decide) (by omega)).mono ?_
    rintro e w2 ⟨r1, rfl, hr1, S2, T2⟩
    have hr1' := hr1 (by decide)
    clear hr1
    go_wp2_with fail
    refine (l1Next_any 9 bs len cap _ a _ S2 (by decide) (by omega)).mono ?_
    rintro e w3 ⟨r2, rfl, hr2, S3, T3⟩
    have hr2' := hr2 (by decide)
    clear hr2
    go_wp2_with fail
    refine (l1Next_any 40 bs len cap _ a _ S3 (by decide) (by omega)).mono ?_
    rintro e w4 ⟨r3, rfl, hr3, S4, T4⟩
    have hr3' := hr3 (by decide)
    clear hr3
    have T14 : Tch w.heap.size bs w w4 := ((T1.trans (T2.mono T1.size)).trans (T3.mono (Nat.le_trans T1.size T2.size))).trans (T4.mono (Nat.le_trans T1.size (Nat.le_trans T2.size T3.size)))
    have hng : IntKind.i64.wrap (-(r3 : Int)) = -(r3 : Int) := IntWalk.i64_in _ ⟨by omega, by omega⟩
    have hlt := S4.lt
    have HPK := hide (l1Pick_any [(r1 : Int), (r2 : Int), -(r3 : Int), 1000000000000000] w4.heap.size bs len cap _ a (w4.alloc (.cells #[.int .i64 (r1 : Int), .int .i64 (r2 : Int), .int .i64 (-(r3 : Int)), .int .i64 1000000000000000] 2)) (S4.alloc _) ⟨_, heap_alloc_new _ _, rfl⟩ (by omega) (by simp) (by simp) (by omega))
    clear S1 S2 S3 T1 T2 T3 T4
    go_wp2_with fail
    refine (unhide HPK).mono ?_
    rintro e w5 ⟨⟨x, hx, rfl⟩, S5, T5⟩
    have hxb : -1000000000000000 ≤ x ∧ x ≤ 1000000000000000 := by
      simp only [List.mem_cons, List.not_mem_nil, or_false] at hx
      omega
    have T15 : Tch w.heap.size bs w w5 := (T14.trans ((Tch.of_below' ((Below.refl _ _).alloc (Nat.le_refl _) _)).mono T14.size)).trans (T5.mono (by simp; have := T14.size; omega))
    clear hx HPK T14 T5 S4 hng
    go_wp2_with fail
    refine (l1NumberO_any x _).mono ?_
    rintro e w6 ⟨s6, rfl, hr6, hb6⟩
    obtain ⟨a6, n6, c6, rfl⟩ := hr6.shape
    go_wp2_with fail
    go_ret
    exact Dv.out_one T15 S5 hr6 hb6 rfl (Dv.ok_num x hxb) (by decide) (by omega)
  · clear hr'
    go_wp2_with fail
    refine (l1Next_any 9 bs len cap _ a _ S1 (by decide) (by omega)).mono ?_
    rintro e w2 ⟨r1, rfl, hr1, S2, T2⟩
    have hr1' := hr1 (by decide)
    clear hr1
    go_wp2_with fail
    refine (l1Next_any 9 bs len cap _ a _ S2 (by decide) (by omega)).mono ?_
    rintro e w3 ⟨r2, rfl, hr2, S3, T3⟩
    have hr2' := hr2 (by decide)
    clear hr2
    go_wp2_with fail
    refine (l1Next_any 40 bs len cap _ a _ S3 (by decide) (by omega)).mono ?_
    rintro e w4 ⟨r3, rfl, hr3, S4, T4⟩
    have hr3' := hr3 (by decide)
    clear hr3
    have T14 : Tch w.heap.size bs w w4 := ((T1.trans (T2.mono T1.size)).trans (T3.mono (Nat.le_trans T1.size T2.size))).trans (T4.mono (Nat.le_trans T1.size (Nat.le_trans T2.size T3.size)))
    have hng : IntKind.i64.wrap (-(r3 : Int)) = -(r3 : Int) := IntWalk.i64_in _ ⟨by omega, by omega⟩
    have hlt := S4.lt
    have HPK := hide (l1Pick_any [(r1 : Int), (r2 : Int), -(r3 : Int), 1000000000000000] w4.heap.size bs len cap _ a (w4.alloc (.cells #[.int .i64 (r1 : Int), .int .i64 (r2 : Int), .int .i64 (-(r3 : Int)), .int .i64 1000000000000000] 2)) (S4.alloc _) ⟨_, heap_alloc_new _ _, rfl⟩ (by omega) (by simp) (by simp) (by omega))
    clear S1 S2 S3 T1 T2 T3 T4
    go_wp2_with fail
    refine (unhide HPK).mono ?_
    rintro e w5 ⟨⟨x, hx, rfl⟩, S5, T5⟩
    have hxb : -1000000000000000 ≤ x ∧ x ≤ 1000000000000000 := by
      simp only [List.mem_cons, List.not_mem_nil, or_false] at hx
      omega
    have T15 : Tch w.heap.size bs w w5 := (T14.trans ((Tch.of_below' ((Below.refl _ _).alloc (Nat.le_refl _) _)).mono T14.size)).trans (T5.mono (by simp; have := T14.size; omega))
    clear hx HPK T14 T5 S4 hng
    go_wp2_with fail
    refine (l1NumberO_any x _).mono ?_
    rintro e w6 ⟨s6, rfl, hr6, hb6⟩
    obtain ⟨a6, n6, c6, rfl⟩ := hr6.shape
    go_wp2_with fail
    go_ret
    exact Dv.out_one T15 S5 hr6 hb6 rfl (Dv.ok_num x hxb) (by decide) (by omega)
  · clear hr'
    go_wp2_with fail
    refine (l1Word_any bs len cap _ a _ S1 (by omega)).mono ?_
    rintro e w2 ⟨⟨t, rfl, ht⟩, S2, T2⟩
    have T12 : Tch w.heap.size bs w w2 := T1.trans (T2.mono T1.size)
    clear T1 T2 S1
    go_wp2_with fail
    refine (l1StringO_any t _).mono ?_
    rintro e w6 ⟨s6, rfl, hr6, hb6⟩
    obtain ⟨a6, n6, c6, rfl⟩ := hr6.shape
    go_wp2_with fail
    go_ret
    exact Dv.out_one T12 S2 hr6 hb6 rfl (Dv.ok_str t ht) (by decide) (by omega)
  · clear hr'
    go_wp2_with fail
    go_ret
    exact Dv.out_one (c := ⟨2, 0, ByteArray.empty, ByteArray.empty, 0⟩) T1 S1 ⟨one_own w1 w1.heap.size w1.heap.size ⟨2, 0, ByteArray.empty, ByteArray.empty, 0⟩ rfl (Nat.le_refl _), by simp⟩ ((Below.refl _ _).alloc (Nat.le_refl _) _) rfl (Dv.ok_kind 2 (by decide)) (by decide) (by omega)
  · clear hr'
    go_wp2_with fail
    refine (l1Next_any 9 bs len cap _ a _ S1 (by decide) (by omega)).mono ?_
    rintro e w2 ⟨r1, rfl, hr1, S2, T2⟩
    have hr1' := hr1 (by decide)
    clear hr1
    go_wp2_with fail
    refine (l1Next_any 9 bs len cap _ a _ S2 (by decide) (by omega)).mono ?_
    rintro e w3 ⟨r2, rfl, hr2, S3, T3⟩
    have hr2' := hr2 (by decide)
    clear hr2
    go_wp2_with fail
    refine (l1Next_any 40 bs len cap _ a _ S3 (by decide) (by omega)).mono ?_
    rintro e w4 ⟨r3, rfl, hr3, S4, T4⟩
    have hr3' := hr3 (by decide)
    clear hr3
    have T14 : Tch w.heap.size bs w w4 := ((T1.trans (T2.mono T1.size)).trans (T3.mono (Nat.le_trans T1.size T2.size))).trans (T4.mono (Nat.le_trans T1.size (Nat.le_trans T2.size T3.size)))
    have hng : IntKind.i64.wrap (-(r3 : Int)) = -(r3 : Int) := IntWalk.i64_in _ ⟨by omega, by omega⟩
    have hlt := S4.lt
    have HPK := hide (l1Pick_any [(r1 : Int), (r2 : Int), -(r3 : Int), 1000000000000000] w4.heap.size bs len cap _ a (w4.alloc (.cells #[.int .i64 (r1 : Int), .int .i64 (r2 : Int), .int .i64 (-(r3 : Int)), .int .i64 1000000000000000] 2)) (S4.alloc _) ⟨_, heap_alloc_new _ _, rfl⟩ (by omega) (by simp) (by simp) (by omega))
    clear S1 S2 S3 T1 T2 T3 T4
    go_wp2_with fail
    refine (unhide HPK).mono ?_
    rintro e w5 ⟨⟨x, hx, rfl⟩, S5, T5⟩
    have hxb : -1000000000000000 ≤ x ∧ x ≤ 1000000000000000 := by
      simp only [List.mem_cons, List.not_mem_nil, or_false] at hx
      omega
    have T15 : Tch w.heap.size bs w w5 := (T14.trans ((Tch.of_below' ((Below.refl _ _).alloc (Nat.le_refl _) _)).mono T14.size)).trans (T5.mono (by simp; have := T14.size; omega))
    clear hx HPK T14 T5 S4 hng
    go_wp2_with fail
    refine (l1NumberO_any x _).mono ?_
    rintro e w6 ⟨s6, rfl, hr6, hb6⟩
    obtain ⟨a6, n6, c6, rfl⟩ := hr6.shape
    go_wp2_with fail
    go_ret
    exact Dv.out_one T15 S5 hr6 hb6 rfl (Dv.ok_num x hxb) (by decide) (by omega)
  · clear hr'
    go_wp2_with fail
    refine (l1Next_any 9 bs len cap _ a _ S1 (by decide) (by omega)).mono ?_
    rintro e w2 ⟨r1, rfl, hr1, S2, T2⟩
    have hr1' := hr1 (by decide)
    clear hr1
    go_wp2_with fail
    refine (l1Next_any 9 bs len cap _ a _ S2 (by decide) (by omega)).mono ?_
    rintro e w3 ⟨r2, rfl, hr2, S3, T3⟩
    have hr2' := hr2 (by decide)
    clear hr2
    go_wp2_with fail
    refine (l1Next_any 40 bs len cap _ a _ S3 (by decide) (by omega)).mono ?_
    rintro e w4 ⟨r3, rfl, hr3, S4, T4⟩
    have hr3' := hr3 (by decide)
    clear hr3
    have T14 : Tch w.heap.size bs w w4 := ((T1.trans (T2.mono T1.size)).trans (T3.mono (Nat.le_trans T1.size T2.size))).trans (T4.mono (Nat.le_trans T1.size (Nat.le_trans T2.size T3.size)))
    have hng : IntKind.i64.wrap (-(r3 : Int)) = -(r3 : Int) := IntWalk.i64_in _ ⟨by omega, by omega⟩
    have hlt := S4.lt
    have HPK := hide (l1Pick_any [(r1 : Int), (r2 : Int), -(r3 : Int), 1000000000000000] w4.heap.size bs len cap _ a (w4.alloc (.cells #[.int .i64 (r1 : Int), .int .i64 (r2 : Int), .int .i64 (-(r3 : Int)), .int .i64 1000000000000000] 2)) (S4.alloc _) ⟨_, heap_alloc_new _ _, rfl⟩ (by omega) (by simp) (by simp) (by omega))
    clear S1 S2 S3 T1 T2 T3 T4
    go_wp2_with fail
    refine (unhide HPK).mono ?_
    rintro e w5 ⟨⟨x, hx, rfl⟩, S5, T5⟩
    have hxb : -1000000000000000 ≤ x ∧ x ≤ 1000000000000000 := by
      simp only [List.mem_cons, List.not_mem_nil, or_false] at hx
      omega
    have T15 : Tch w.heap.size bs w w5 := (T14.trans ((Tch.of_below' ((Below.refl _ _).alloc (Nat.le_refl _) _)).mono T14.size)).trans (T5.mono (by simp; have := T14.size; omega))
    clear hx HPK T14 T5 S4 hng
    go_wp2_with fail
    refine (l1NumberO_any x _).mono ?_
    rintro e w6 ⟨s6, rfl, hr6, hb6⟩
    obtain ⟨a6, n6, c6, rfl⟩ := hr6.shape
    go_wp2_with fail
    go_ret
    exact Dv.out_one T15 S5 hr6 hb6 rfl (Dv.ok_num x hxb) (by decide) (by omega)

end Go.Proofs.YtikeffckhklhbaaGreatDoor
