/-
  spec.l1Bent.
-/
import Derived.Test.YtikeffckhklhbaaGreatDoorX00
import Derived.Test.YtikeffckhklhbaaGreatDoorX40
import Derived.Test.YtikeffckhklhbaaGreatDoorX43
namespace Go.Proofs.YtikeffckhklhbaaGreatDoor
open Go.RowKit
set_option linter.unusedVariables false
set_option linter.unusedSimpArgs false

/-- A call that is the only one that may come up. -/
theorem Dv.callZ {P : Program} {ops : Array Oper} {Q : Exit → Act → World → Prop} {md : Region.Mode} {S : World → Prop} {z i d : Nat} {oi : Oper} {fuel : Nat} {listed : Array Bool} {a : Act} {w : World} (hi : ops[i]? = some oi) (hd : oi.dst = some d) (hr : Region.ready md ops listed = [i])
    (hw : Region.wanted oi (yielded ops a.tmps) = true) (h : ∀ K : Act → World → Prop, Shut (∀ v w', S w' → Z.any P md ops Q S z fuel (listed.setIfInBounds i true) (a.put (some d) v) w' → K (a.put (some d) v) w') → Oper.wp P oi a w K Q) : Z.any P md ops Q S z (fuel + 1) listed a w :=
  Z.ready hr (by simp) (Z.All.cons hi (fun K hK => by
    rw [if_pos hw]
    exact h K (fun v w' hS hW => hK.out _ _ (fun _ => hS) hW)) Z.All.nil)
set_option maxRecDepth 100000 in
set_option maxHeartbeats 4000000 in
theorem l1Bent_any (bs len cap at_ : Nat) (a : Option Addr) (w : World) (h : Src w bs a len cap at_) (hat : at_ ≤ 600000000) :
    Calls Tryz.prog 14 #[.pointer (some ⟨bs, 0, none⟩)] w (Dv.Bent w bs a len cap at_ 120) := by
  have hbs := h.lt
  go_enter Tryz.func14, Tryz.ntmps14
  go_wp2_with fail
  refine (Dv.says_3 bs len cap at_ a _ h (by omega)).mono ?_
  rintro e w1 ⟨s, l, at1, rfl, hr1, hbare, hl13, hok, S1, hat1, T1⟩
  have h0 : 0 < l.length := hbare.1
  obtain ⟨g, gc, hs, hgB, _, _, _, _, _⟩ := Dv.rs_some hr1 h0
  subst hs
  have hlI : (0 : Int) < (l.length : Int) := by omega
  go_wp2_with fail
  refine (l1Next_any (l.length : Int) bs len cap at1 a _ S1 (by omega) (by omega)).mono ?_
  rintro e w2 ⟨i, rfl, hi, S2, T2⟩
  have hi' : i < l.length := by have := hi (by omega); omega
  go_wp2_with fail
  refine (l1Next_any 36 bs len cap _ a _ S2 (by decide) (by omega)).mono ?_
  rintro e w3 ⟨r, rfl, hr, S3, T3⟩
  have hr' : r < 36 := by have := hr (by decide); omega
  have R3 : Rs w3 w.heap.size (.slice (some ⟨g, 0, none⟩) l.length gc) l := Dv.rs_kept (Dv.rs_kept hr1 (Dv.Tch.kept T2 hbs)) (Dv.Tch.kept T3 hbs)
  have T13 : Tch w.heap.size bs w w3 := (T1.trans (T2.mono T1.size)).trans (T3.mono (Nat.le_trans T1.size T2.size))
  have hiI : (i : Int) < (l.length : Int) := by omega
  have hi0 : (0 : Int) ≤ (i : Int) := by omega
  have HOK := hide hok
  have hl300 : l.length ≤ 200 := by omega
  clear hr hi hr1 hbare S1 S2 T1 T2 T3 hok h hl13
  obtain rfl | rfl | rfl | rfl | rfl | rfl | rfl | rfl | rfl | h9 : r = 0 ∨ r = 1 ∨ r = 2 ∨ r = 3 ∨ r = 4 ∨ r = 5 ∨ r = 6 ∨ r = 7 ∨ r = 8 ∨ 9 ≤ r := by omega
  · clear hr'
    go_wp2_with fail
    refine (l1Next_any 7 bs len cap _ a _ S3 (by decide) (by omega)).mono ?_
    rintro e w4 ⟨r4, rfl, hr4, S4, T4⟩
    have hr4' : r4 < 7 := by have := hr4 (by decide); omega
    have R4 := Dv.rs_kept R3 (Dv.Tch.kept T4 hbs)
    have T14 : Tch w.heap.size bs w w4 := T13.trans (T4.mono T13.size)
    clear hr4 T4 S3 R3 T13
    have hlt4 := S4.lt
    have HPK := hide (l1Pick_any [(-1 : Int), (7 : Int), (r4 : Int)] w4.heap.size bs len cap _ a (w4.alloc (.cells #[.int .i64 (-1 : Int), .int .i64 (7 : Int), .int .i64 (r4 : Int)] 2)) (S4.alloc _) ⟨_, heap_alloc_new _ _, rfl⟩ (by omega) (by simp) (by simp) (by omega))
    go_wp2_with fail
    refine (unhide HPK).mono ?_
    rintro e w5 ⟨⟨x, hx, rfl⟩, S5, T5⟩
    have hxb : -1 ≤ x ∧ x ≤ 7 := by
      simp only [List.mem_cons, List.not_mem_nil, or_false] at hx
      omega
    have R5 := Dv.rs_kept (Dv.rs_kept R4 (fun b _ h2 => heap_alloc_old w4 (.cells #[.int .i64 (-1 : Int), .int .i64 (7 : Int), .int .i64 (r4 : Int)] 2) h2)) (Dv.Tch.kept T5 hbs)
    have T15 : Tch w.heap.size bs w w5 := (T14.trans ((Tch.of_below' ((Below.refl _ _).alloc (Nat.le_refl _) _)).mono T14.size)).trans (T5.mono (by simp; have := T14.size; omega))
    clear hx HPK T5
    obtain ⟨hB, hg, hcp, hcell, hfr, hset⟩ := Dv.rs_at R5 h0
    have hoc := Dv.get_ok (unhide HOK) hi'
    have HF := hide (hset i 0 (.int .i64 x) { l.getD i M.zero with kind := x } hi' (by decide) rfl)
    have HO2 := hide (Dv.ok_set (unhide HOK) i { l.getD i M.zero with kind := x } (by obtain ⟨o1, o2, o3, o4, o5⟩ := hoc; exact ⟨⟨by simp only; omega, by simp only; omega⟩, o2, o3, o4, o5⟩))
    have q0 : w5.cell? ⟨g, i * 5, none⟩ = some (.int .i64 (l.getD i M.zero).kind) := hcell i 0 hi' (by decide)
    have z0 := hfr (i * 5)
    have S6 := hide (S5.set g (i * 5) (.int .i64 x) (by omega))
    have T6 := hide (Dv.tch_set (j := i * 5) T15 hB (.int .i64 x))
    clear hcell hfr hset hoc R5 S5 T15
    generalize l.getD i M.zero = c at *
    go_wp2_with fail
    go_ret
    exact ⟨_, _, _, rfl, unhide HF, by rw [List.length_set]; omega, unhide HO2, unhide S6, by omega, unhide T6, g, gc, by rw [List.length_set]; rfl⟩
  · clear hr'
    have hlt4 := S3.lt
    have HPK := hide (l1Pick_any [(1 : Int), (1000000000000001 : Int), (-1000000000000001 : Int), (4611686018427387904 : Int)] w3.heap.size bs len cap _ a (w3.alloc (.cells #[.int .i64 (1 : Int), .int .i64 (1000000000000001 : Int), .int .i64 (-1000000000000001 : Int), .int .i64 (4611686018427387904 : Int)] 2)) (S3.alloc _) ⟨_, heap_alloc_new _ _, rfl⟩ (by omega) (by simp) (by simp) (by omega))
    go_wp2_with fail
    refine (unhide HPK).mono ?_
    rintro e w5 ⟨⟨x, hx, rfl⟩, S5, T5⟩
    have hxb : -1000000000000001 ≤ x ∧ x ≤ 4611686018427387904 := by
      simp only [List.mem_cons, List.not_mem_nil, or_false] at hx
      omega
    have R5 := Dv.rs_kept (Dv.rs_kept R3 (fun b _ h2 => heap_alloc_old w3 (.cells #[.int .i64 (1 : Int), .int .i64 (1000000000000001 : Int), .int .i64 (-1000000000000001 : Int), .int .i64 (4611686018427387904 : Int)] 2) h2)) (Dv.Tch.kept T5 hbs)
    have T15 : Tch w.heap.size bs w w5 := (T13.trans ((Tch.of_below' ((Below.refl _ _).alloc (Nat.le_refl _) _)).mono T13.size)).trans (T5.mono (by simp; have := T13.size; omega))
    clear hx HPK T5
    obtain ⟨hB, hg, hcp, hcell, hfr, hset⟩ := Dv.rs_at R5 h0
    have hoc := Dv.get_ok (unhide HOK) hi'
    have HF := hide (hset i 1 (.int .i64 x) { l.getD i M.zero with num := x } hi' (by decide) rfl)
    have HO2 := hide (Dv.ok_set (unhide HOK) i { l.getD i M.zero with num := x } (by obtain ⟨o1, o2, o3, o4, o5⟩ := hoc; exact ⟨o1, ⟨by simp only; omega, by simp only; omega⟩, o3, o4, o5⟩))
    have q0 : w5.cell? ⟨g, i * 5 + 1, none⟩ = some (.int .i64 (l.getD i M.zero).num) := hcell i 1 hi' (by decide)
    have z0 := hfr (i * 5 + 1)
    have S6 := hide (S5.set g (i * 5 + 1) (.int .i64 x) (by omega))
    have T6 := hide (Dv.tch_set (j := i * 5 + 1) T15 hB (.int .i64 x))
    clear hcell hfr hset hoc R5 S5 T15
    generalize l.getD i M.zero = c at *
    go_wp2_with fail
    go_ret
    exact ⟨_, _, _, rfl, unhide HF, by rw [List.length_set]; omega, unhide HO2, unhide S6, by omega, unhide T6, g, gc, by rw [List.length_set]; rfl⟩
  · clear hr'
    have hlt4 := S3.lt
    have HNX := hide (l1Next_any 3 bs len cap _ a (w3.alloc (.cells #[.string { data := #[120] }, .string { data := #[10] }, .string { data := #[97, 127] }] 9)) (S3.alloc _) (by decide) (by omega))
    go_wp2_with fail
    refine (unhide HNX).mono ?_
    rintro e w5 ⟨r5, rfl, hr5, S5, T5⟩
    have hr5' : r5 < 3 := by have := hr5 (by decide); omega
    have O5 : Own w5 w3.heap.size 9 [.string { data := #[120] }, .string { data := #[10] }, .string { data := #[97, 127] }] := T5.own ⟨_, heap_alloc_new _ _, rfl⟩ (by simp) (by omega)
    have R5 := Dv.rs_kept (Dv.rs_kept R3 (fun b _ h2 => heap_alloc_old w3 (.cells #[.string { data := #[120] }, .string { data := #[10] }, .string { data := #[97, 127] }] 9) h2)) (Dv.Tch.kept T5 hbs)
    have T15 : Tch w.heap.size bs w w5 := (T13.trans ((Tch.of_below' ((Below.refl _ _).alloc (Nat.le_refl _) _)).mono T13.size)).trans (T5.mono (by simp; have := T13.size; omega))
    clear hr5 T5 HNX S3 R3 T13
    obtain rfl | rfl | rfl : r5 = 0 ∨ r5 = 1 ∨ r5 = 2 := by omega
    · have k0 : w5.cell? ⟨w3.heap.size, 0, none⟩ = some (.string { data := #[120] }) := O5.cell 0
      obtain ⟨hB, hg, hcp, hcell, hfr, hset⟩ := Dv.rs_at R5 h0
      have hoc := Dv.get_ok (unhide HOK) hi'
      have HF := hide (hset i 2 (.string { data := #[120] }) { l.getD i M.zero with text := { data := #[120] } } hi' (by decide) rfl)
      have HO2 := hide (Dv.ok_set (unhide HOK) i { l.getD i M.zero with text := { data := #[120] } } (by obtain ⟨o1, o2, o3, o4, o5⟩ := hoc; exact ⟨o1, o2, o3, (by show ByteArray.size _ ≤ 9223372036854775807; simp [ByteArray.size]), o5⟩))
      have q0 : w5.cell? ⟨g, i * 5 + 2, none⟩ = some (.string (l.getD i M.zero).text) := hcell i 2 hi' (by decide)
      have z0 := hfr (i * 5 + 2)
      have S6 := hide (S5.set g (i * 5 + 2) (.string { data := #[120] }) (by omega))
      have T6 := hide (Dv.tch_set (j := i * 5 + 2) T15 hB (.string { data := #[120] }))
      clear hcell hfr hset hoc R5 S5 T15
      generalize l.getD i M.zero = c at *
      go_wp2_with fail
      go_ret
      exact ⟨_, _, _, rfl, unhide HF, by rw [List.length_set]; omega, unhide HO2, unhide S6, by omega, unhide T6, g, gc, by rw [List.length_set]; rfl⟩
    · have k0 : w5.cell? ⟨w3.heap.size, 1, none⟩ = some (.string { data := #[10] }) := O5.cell 1
      obtain ⟨hB, hg, hcp, hcell, hfr, hset⟩ := Dv.rs_at R5 h0
      have hoc := Dv.get_ok (unhide HOK) hi'
      have HF := hide (hset i 2 (.string { data := #[10] }) { l.getD i M.zero with text := { data := #[10] } } hi' (by decide) rfl)
      have HO2 := hide (Dv.ok_set (unhide HOK) i { l.getD i M.zero with text := { data := #[10] } } (by obtain ⟨o1, o2, o3, o4, o5⟩ := hoc; exact ⟨o1, o2, o3, (by show ByteArray.size _ ≤ 9223372036854775807; simp [ByteArray.size]), o5⟩))
      have q0 : w5.cell? ⟨g, i * 5 + 2, none⟩ = some (.string (l.getD i M.zero).text) := hcell i 2 hi' (by decide)
      have z0 := hfr (i * 5 + 2)
      have S6 := hide (S5.set g (i * 5 + 2) (.string { data := #[10] }) (by omega))
      have T6 := hide (Dv.tch_set (j := i * 5 + 2) T15 hB (.string { data := #[10] }))
      clear hcell hfr hset hoc R5 S5 T15
      generalize l.getD i M.zero = c at *
      go_wp2_with fail
      go_ret
      exact ⟨_, _, _, rfl, unhide HF, by rw [List.length_set]; omega, unhide HO2, unhide S6, by omega, unhide T6, g, gc, by rw [List.length_set]; rfl⟩
    · have k0 : w5.cell? ⟨w3.heap.size, 2, none⟩ = some (.string { data := #[97, 127] }) := O5.cell 2
      obtain ⟨hB, hg, hcp, hcell, hfr, hset⟩ := Dv.rs_at R5 h0
      have hoc := Dv.get_ok (unhide HOK) hi'
      have HF := hide (hset i 2 (.string { data := #[97, 127] }) { l.getD i M.zero with text := { data := #[97, 127] } } hi' (by decide) rfl)
      have HO2 := hide (Dv.ok_set (unhide HOK) i { l.getD i M.zero with text := { data := #[97, 127] } } (by obtain ⟨o1, o2, o3, o4, o5⟩ := hoc; exact ⟨o1, o2, o3, (by show ByteArray.size _ ≤ 9223372036854775807; simp [ByteArray.size]), o5⟩))
      have q0 : w5.cell? ⟨g, i * 5 + 2, none⟩ = some (.string (l.getD i M.zero).text) := hcell i 2 hi' (by decide)
      have z0 := hfr (i * 5 + 2)
      have S6 := hide (S5.set g (i * 5 + 2) (.string { data := #[97, 127] }) (by omega))
      have T6 := hide (Dv.tch_set (j := i * 5 + 2) T15 hB (.string { data := #[97, 127] }))
      clear hcell hfr hset hoc R5 S5 T15
      generalize l.getD i M.zero = c at *
      go_wp2_with fail
      go_ret
      exact ⟨_, _, _, rfl, unhide HF, by rw [List.length_set]; omega, unhide HO2, unhide S6, by omega, unhide T6, g, gc, by rw [List.length_set]; rfl⟩
  · clear hr'
    have hlt4 := S3.lt
    have HNX := hide (l1Next_any 3 bs len cap _ a (w3.alloc (.cells #[.string { data := #[107] }, .string { data := #[] }, .string { data := #[31] }] 9)) (S3.alloc _) (by decide) (by omega))
    go_wp2_with fail
    refine (unhide HNX).mono ?_
    rintro e w5 ⟨r5, rfl, hr5, S5, T5⟩
    have hr5' : r5 < 3 := by have := hr5 (by decide); omega
    have O5 : Own w5 w3.heap.size 9 [.string { data := #[107] }, .string { data := #[] }, .string { data := #[31] }] := T5.own ⟨_, heap_alloc_new _ _, rfl⟩ (by simp) (by omega)
    have R5 := Dv.rs_kept (Dv.rs_kept R3 (fun b _ h2 => heap_alloc_old w3 (.cells #[.string { data := #[107] }, .string { data := #[] }, .string { data := #[31] }] 9) h2)) (Dv.Tch.kept T5 hbs)
    have T15 : Tch w.heap.size bs w w5 := (T13.trans ((Tch.of_below' ((Below.refl _ _).alloc (Nat.le_refl _) _)).mono T13.size)).trans (T5.mono (by simp; have := T13.size; omega))
    clear hr5 T5 HNX S3 R3 T13
    obtain rfl | rfl | rfl : r5 = 0 ∨ r5 = 1 ∨ r5 = 2 := by omega
    · have k0 : w5.cell? ⟨w3.heap.size, 0, none⟩ = some (.string { data := #[107] }) := O5.cell 0
      obtain ⟨hB, hg, hcp, hcell, hfr, hset⟩ := Dv.rs_at R5 h0
      have hoc := Dv.get_ok (unhide HOK) hi'
      have HF := hide (hset i 3 (.string { data := #[107] }) { l.getD i M.zero with key := { data := #[107] } } hi' (by decide) rfl)
      have HO2 := hide (Dv.ok_set (unhide HOK) i { l.getD i M.zero with key := { data := #[107] } } (by obtain ⟨o1, o2, o3, o4, o5⟩ := hoc; exact ⟨o1, o2, o3, o4, (by show ByteArray.size _ ≤ 9223372036854775807; simp [ByteArray.size])⟩))
      have q0 : w5.cell? ⟨g, i * 5 + 3, none⟩ = some (.string (l.getD i M.zero).key) := hcell i 3 hi' (by decide)
      have z0 := hfr (i * 5 + 3)
      have S6 := hide (S5.set g (i * 5 + 3) (.string { data := #[107] }) (by omega))
      have T6 := hide (Dv.tch_set (j := i * 5 + 3) T15 hB (.string { data := #[107] }))
      clear hcell hfr hset hoc R5 S5 T15
      generalize l.getD i M.zero = c at *
      go_wp2_with fail
      go_ret
      exact ⟨_, _, _, rfl, unhide HF, by rw [List.length_set]; omega, unhide HO2, unhide S6, by omega, unhide T6, g, gc, by rw [List.length_set]; rfl⟩
    · have k0 : w5.cell? ⟨w3.heap.size, 1, none⟩ = some (.string { data := #[] }) := O5.cell 1
      obtain ⟨hB, hg, hcp, hcell, hfr, hset⟩ := Dv.rs_at R5 h0
      have hoc := Dv.get_ok (unhide HOK) hi'
      have HF := hide (hset i 3 (.string { data := #[] }) { l.getD i M.zero with key := { data := #[] } } hi' (by decide) rfl)
      have HO2 := hide (Dv.ok_set (unhide HOK) i { l.getD i M.zero with key := { data := #[] } } (by obtain ⟨o1, o2, o3, o4, o5⟩ := hoc; exact ⟨o1, o2, o3, o4, (by show ByteArray.size _ ≤ 9223372036854775807; simp [ByteArray.size])⟩))
      have q0 : w5.cell? ⟨g, i * 5 + 3, none⟩ = some (.string (l.getD i M.zero).key) := hcell i 3 hi' (by decide)
      have z0 := hfr (i * 5 + 3)
      have S6 := hide (S5.set g (i * 5 + 3) (.string { data := #[] }) (by omega))
      have T6 := hide (Dv.tch_set (j := i * 5 + 3) T15 hB (.string { data := #[] }))
      clear hcell hfr hset hoc R5 S5 T15
      generalize l.getD i M.zero = c at *
      go_wp2_with fail
      go_ret
      exact ⟨_, _, _, rfl, unhide HF, by rw [List.length_set]; omega, unhide HO2, unhide S6, by omega, unhide T6, g, gc, by rw [List.length_set]; rfl⟩
    · have k0 : w5.cell? ⟨w3.heap.size, 2, none⟩ = some (.string { data := #[31] }) := O5.cell 2
      obtain ⟨hB, hg, hcp, hcell, hfr, hset⟩ := Dv.rs_at R5 h0
      have hoc := Dv.get_ok (unhide HOK) hi'
      have HF := hide (hset i 3 (.string { data := #[31] }) { l.getD i M.zero with key := { data := #[31] } } hi' (by decide) rfl)
      have HO2 := hide (Dv.ok_set (unhide HOK) i { l.getD i M.zero with key := { data := #[31] } } (by obtain ⟨o1, o2, o3, o4, o5⟩ := hoc; exact ⟨o1, o2, o3, o4, (by show ByteArray.size _ ≤ 9223372036854775807; simp [ByteArray.size])⟩))
      have q0 : w5.cell? ⟨g, i * 5 + 3, none⟩ = some (.string (l.getD i M.zero).key) := hcell i 3 hi' (by decide)
      have z0 := hfr (i * 5 + 3)
      have S6 := hide (S5.set g (i * 5 + 3) (.string { data := #[31] }) (by omega))
      have T6 := hide (Dv.tch_set (j := i * 5 + 3) T15 hB (.string { data := #[31] }))
      clear hcell hfr hset hoc R5 S5 T15
      generalize l.getD i M.zero = c at *
      go_wp2_with fail
      go_ret
      exact ⟨_, _, _, rfl, unhide HF, by rw [List.length_set]; omega, unhide HO2, unhide S6, by omega, unhide T6, g, gc, by rw [List.length_set]; rfl⟩
  · clear hr'
    obtain ⟨hB, hg, hcp, hcell, hfr, hset⟩ := Dv.rs_at R3 h0
    have hoc := Dv.get_ok (unhide HOK) hi'
    have q0 : w3.cell? ⟨g, i * 5 + 4, none⟩ = some (.int .i64 (l.getD i M.zero).n) := hcell i 4 hi' (by decide)
    have HOC := hide hoc
    have HC := hide (show l.getD i M.zero = l.getD i M.zero from rfl)
    clear hcell hfr hset hoc
    obtain ⟨c, hc⟩ : ∃ c, c = l.getD i M.zero := ⟨_, rfl⟩
    have HCC := hide hc
    rw [← hc] at q0
    clear hc
    obtain ⟨X1, hwa⟩ : ∃ X, IntKind.i64.wrap (c.n + 1) = X := ⟨_, rfl⟩
    obtain ⟨X2, hws⟩ : ∃ X, IntKind.i64.wrap (c.n - 1) = X := ⟨_, rfl⟩
    have hX1 : -9223372036854775808 ≤ X1 ∧ X1 ≤ 9223372036854775807 := by rw [← hwa]; exact Dv.wrap_in _
    have hX2 : -9223372036854775808 ≤ X2 ∧ X2 ≤ 9223372036854775807 := by rw [← hws]; exact Dv.wrap_in _
    have hgb : g ≠ bs := by omega
    have hlt4 := S3.lt
    have HPK := hide (l1Pick_any [X1, (-1 : Int), X2, (201 : Int)] w3.heap.size bs len cap _ a ((w3.alloc (.cells #[.int .i64 X1, .int .i64 (-1), .int .i64 X2, .int .i64 201] 2)).drew) (Dv.src_drew (S3.alloc _)) (Dv.own_drew ⟨_, heap_alloc_new _ _, rfl⟩) (by omega) (by simp) (by simp) (by omega))
    have HSR := hide S3
    have HT := hide T13
    have HR3 := hide R3
    clear S3 T13 R3
    go_upto_region 13 with fail
    refine Z.region 19 (fun w' => w'.cell? ⟨g, i * 5 + 4, none⟩ = some (.int .i64 c.n)) (by kernel_rfl) q0 (fun hHeld => ?_)
    refine Z.take (i := 0) (d := 57) (v := .slice (some ⟨g, 0, none⟩) l.length gc) rfl rfl (by kernel_rfl) (by kernel_rfl) (by kernel_rfl) (by kernel_rfl) (fun _ _ _ h => h) (Or.inl ⟨by rfl, ?_⟩) hHeld ?_
    · intro w' hSw; go_simp
    simp only [Act.put, List.setIfInBounds_toArray, List.set_cons_zero, List.set_cons_succ]
    refine Z.take (i := 1) (d := 58) (v := .int .i64 (i : Int)) rfl rfl (by kernel_rfl) (by kernel_rfl) (by kernel_rfl) (by kernel_rfl) (fun _ _ _ h => h) (Or.inl ⟨by rfl, ?_⟩) hHeld ?_
    · intro w' hSw; go_simp
    simp only [Act.put, List.setIfInBounds_toArray, List.set_cons_zero, List.set_cons_succ]
    refine Z.take (i := 2) (d := 59) (v := .pointer (some ⟨bs, 0, none⟩)) rfl rfl (by kernel_rfl) (by kernel_rfl) (by kernel_rfl) (by kernel_rfl) (fun _ _ _ h => h) (Or.inl ⟨by rfl, ?_⟩) hHeld ?_
    · intro w' hSw; go_simp
    simp only [Act.put, List.setIfInBounds_toArray, List.set_cons_zero, List.set_cons_succ]
    refine Z.take (i := 3) (d := 60) (v := .slice (some ⟨g, 0, none⟩) l.length gc) rfl rfl (by kernel_rfl) (by kernel_rfl) (by kernel_rfl) (by kernel_rfl) (fun _ _ _ h => h) (Or.inl ⟨by rfl, ?_⟩) hHeld ?_
    · intro w' hSw; go_simp
    simp only [Act.put, List.setIfInBounds_toArray, List.set_cons_zero, List.set_cons_succ]
    refine Z.take (i := 4) (d := 61) (v := .int .i64 (i : Int)) rfl rfl (by kernel_rfl) (by kernel_rfl) (by kernel_rfl) (by kernel_rfl) (fun _ _ _ h => h) (Or.inl ⟨by rfl, ?_⟩) hHeld ?_
    · intro w' hSw; go_simp
    simp only [Act.put, List.setIfInBounds_toArray, List.set_cons_zero, List.set_cons_succ]
    refine Z.take (i := 5) (d := 62) (v := .pointer (some ⟨g, i * 5, none⟩)) rfl rfl (by kernel_rfl) (by kernel_rfl) (by kernel_rfl) (by kernel_rfl) (fun _ _ _ h => h) (Or.inl ⟨by rfl, ?_⟩) hHeld ?_
    · intro w' hSw; go_simp
    simp only [Act.put, List.setIfInBounds_toArray, List.set_cons_zero, List.set_cons_succ]
    refine Z.take (i := 6) (d := 63) (v := .pointer (some ⟨g, i * 5 + 4, none⟩)) rfl rfl (by kernel_rfl) (by kernel_rfl) (by kernel_rfl) (by kernel_rfl) (fun _ _ _ h => h) (Or.inl ⟨by rfl, ?_⟩) hHeld ?_
    · intro w' hSw; go_simp
    simp only [Act.put, List.setIfInBounds_toArray, List.set_cons_zero, List.set_cons_succ]
    refine Z.take (i := 7) (d := 64) (v := .int .i64 c.n) rfl rfl (by kernel_rfl) (by kernel_rfl) (by kernel_rfl) (by kernel_rfl) (fun _ _ _ h => h) (Or.inl ⟨by rfl, ?_⟩) hHeld ?_
    · intro w' hSw; go_simp
    simp only [Act.put, List.setIfInBounds_toArray, List.set_cons_zero, List.set_cons_succ]
    refine Z.take (i := 8) (d := 65) (v := .int .i64 X1) rfl rfl (by kernel_rfl) (by kernel_rfl) (by kernel_rfl) (by kernel_rfl) (fun _ _ _ h => h) (Or.inl ⟨by rfl, ?_⟩) hHeld ?_
    · intro w' hSw; go_simp
    simp only [Act.put, List.setIfInBounds_toArray, List.set_cons_zero, List.set_cons_succ]
    refine Z.take (i := 9) (d := 66) (v := .slice (some ⟨g, 0, none⟩) l.length gc) rfl rfl (by kernel_rfl) (by kernel_rfl) (by kernel_rfl) (by kernel_rfl) (fun _ _ _ h => h) (Or.inl ⟨by rfl, ?_⟩) hHeld ?_
    · intro w' hSw; go_simp
    simp only [Act.put, List.setIfInBounds_toArray, List.set_cons_zero, List.set_cons_succ]
    refine Z.take (i := 10) (d := 67) (v := .int .i64 (i : Int)) rfl rfl (by kernel_rfl) (by kernel_rfl) (by kernel_rfl) (by kernel_rfl) (fun _ _ _ h => h) (Or.inl ⟨by rfl, ?_⟩) hHeld ?_
    · intro w' hSw; go_simp
    simp only [Act.put, List.setIfInBounds_toArray, List.set_cons_zero, List.set_cons_succ]
    refine Z.take (i := 11) (d := 68) (v := .pointer (some ⟨g, i * 5, none⟩)) rfl rfl (by kernel_rfl) (by kernel_rfl) (by kernel_rfl) (by kernel_rfl) (fun _ _ _ h => h) (Or.inl ⟨by rfl, ?_⟩) hHeld ?_
    · intro w' hSw; go_simp
    simp only [Act.put, List.setIfInBounds_toArray, List.set_cons_zero, List.set_cons_succ]
    refine Z.take (i := 12) (d := 69) (v := .pointer (some ⟨g, i * 5 + 4, none⟩)) rfl rfl (by kernel_rfl) (by kernel_rfl) (by kernel_rfl) (by kernel_rfl) (fun _ _ _ h => h) (Or.inl ⟨by rfl, ?_⟩) hHeld ?_
    · intro w' hSw; go_simp
    simp only [Act.put, List.setIfInBounds_toArray, List.set_cons_zero, List.set_cons_succ]
    refine Z.take (i := 13) (d := 70) (v := .int .i64 c.n) rfl rfl (by kernel_rfl) (by kernel_rfl) (by kernel_rfl) (by kernel_rfl) (fun _ _ _ h => h) (Or.inl ⟨by rfl, ?_⟩) hHeld ?_
    · intro w' hSw; go_simp
    simp only [Act.put, List.setIfInBounds_toArray, List.set_cons_zero, List.set_cons_succ]
    refine Z.take (i := 14) (d := 71) (v := .int .i64 X2) rfl rfl (by kernel_rfl) (by kernel_rfl) (by kernel_rfl) (by kernel_rfl) (fun _ _ _ h => h) (Or.inl ⟨by rfl, ?_⟩) hHeld ?_
    · intro w' hSw; go_simp
    simp only [Act.put, List.setIfInBounds_toArray, List.set_cons_zero, List.set_cons_succ]
    have hH2 : ((w3.alloc (.cells #[.int .i64 X1, .int .i64 (-1), .int .i64 X2, .int .i64 201] 2)).drew).cell? ⟨g, i * 5 + 4, none⟩ = some (.int .i64 c.n) := (World.cell?_alloc_lt _ _ ⟨g, i * 5 + 4, none⟩ hg).trans q0
    refine Z.ready (rs := [15]) (by kernel_rfl) (by simp) (Z.val_cons (i := 15) (d := 72) (v := .slice (some ⟨w3.heap.size, 0, none⟩) 4 4) (w' := (w3.alloc (.cells #[.int .i64 X1, .int .i64 (-1), .int .i64 X2, .int .i64 201] 2)).drew) rfl (by rfl) ?_ (fun _ => hH2) ?_ Z.All.nil)
    · intro K hK
      go_simp
      exact hK.out
    simp only [Act.put, List.setIfInBounds_toArray, List.set_cons_zero, List.set_cons_succ]
    refine Dv.callZ (i := 16) (d := 73) rfl rfl (by kernel_rfl) (by rfl) (fun K hK => ?_)
    go_simp
    refine (unhide HPK).mono ?_
    rintro e w5 ⟨⟨x, hx, rfl⟩, S5, T5⟩
    have hxb : -9223372036854775808 ≤ x ∧ x ≤ 9223372036854775807 := by
      simp only [List.mem_cons, List.not_mem_nil, or_false] at hx
      omega
    have R5 : Rs w5 w.heap.size (.slice (some ⟨g, 0, none⟩) l.length gc) l := Dv.rs_kept (Dv.rs_kept (unhide HR3) (fun b _ h2 => heap_alloc_old w3 (.cells #[.int .i64 X1, .int .i64 (-1), .int .i64 X2, .int .i64 201] 2) h2)) (Dv.Tch.kept (w := (w3.alloc (.cells #[.int .i64 X1, .int .i64 (-1), .int .i64 X2, .int .i64 201] 2))) (Dv.tch_drew T5) hbs)
    have T15 : Tch w.heap.size bs w w5 := ((unhide HT).trans ((Tch.of_below' ((Below.refl _ _).alloc (Nat.le_refl _) _)).mono (unhide HT).size)).trans ((Dv.tch_drew T5).mono (by simp; have := (unhide HT).size; omega))
    obtain ⟨hB5, hg5, hcp5, hcell5, hfr5, hset5⟩ := Dv.rs_at R5 h0
    have q5 : w5.cell? ⟨g, i * 5 + 4, none⟩ = some (.int .i64 c.n) := by rw [hcell5 i 4 hi' (by decide), ← unhide HCC]; rfl
    have z5 := hfr5 (i * 5 + 4)
    go_simp
    refine hK.out (.int .i64 x) _ q5 ?_
    clear hK K hx HPK T5
    simp only [Act.put, List.setIfInBounds_toArray, List.set_cons_zero, List.set_cons_succ]
    refine Z.ready (rs := [17]) (by kernel_rfl) (by simp) (Z.val_cons (i := 17) (d := 74) (v := .pointer (some ⟨g, i * 5, none⟩)) (w' := w5) rfl (by rfl) ?_ (fun _ => q5) ?_ Z.All.nil)
    · intro K hK
      go_simp
      exact hK.out
    simp only [Act.put, List.setIfInBounds_toArray, List.set_cons_zero, List.set_cons_succ]
    refine Z.ready (rs := [18]) (by kernel_rfl) (by simp) (Z.val_cons (i := 18) (d := 75) (v := .pointer (some ⟨g, i * 5 + 4, none⟩)) (w' := w5) rfl (by rfl) ?_ (fun _ => q5) ?_ Z.All.nil)
    · intro K hK
      go_simp
      exact hK.out
    simp only [Act.put, List.setIfInBounds_toArray, List.set_cons_zero, List.set_cons_succ]
    have HF := hide (hset5 i 4 (.int .i64 x) { l.getD i M.zero with n := x } hi' (by decide) rfl)
    have HO2 := hide (Dv.ok_set (unhide HOK) i { l.getD i M.zero with n := x } (by obtain ⟨o1, o2, o3, o4, o5⟩ := unhide HOC; exact ⟨o1, o2, ⟨by simp only; omega, by simp only; omega⟩, o4, o5⟩))
    have S6 := hide (S5.set g (i * 5 + 4) (.int .i64 x) (by omega))
    have T6 := hide (Dv.tch_set (j := i * 5 + 4) T15 hB (.int .i64 x))
    clear hcell5 hfr5 hset5 R5 S5 T15
    refine Z.last_at (w' := w5.setCell ⟨g, i * 5 + 4, none⟩ (.int .i64 x)) rfl (by kernel_rfl) (by rfl) (fun K hK => ?_) ?_
    · go_simp
      exact hK.out
    refine Z.done (by kernel_rfl) ?_ _
    go_wp2_with fail
    go_ret
    exact ⟨_, _, _, rfl, unhide HF, by rw [List.length_set]; omega, unhide HO2, unhide S6, by omega, unhide T6, g, gc, by rw [List.length_set]; rfl⟩
  · clear hr'
    have HF := hide (Dv.rs_cut R3 i (by omega))
    have HO2 := hide (show ∀ c ∈ l.take i, c.ok from fun c hc => (unhide HOK) c (List.mem_of_mem_take hc))
    obtain ⟨hB, hg, hcp, _, _, _⟩ := Dv.rs_at R3 h0
    have hic : (i : Int) ≤ (gc : Int) := by omega
    have hS := hide S3
    have hT := hide T13
    clear R3 S3 T13
    go_wp2_with fail
    go_ret
    exact ⟨_, _, _, rfl, unhide HF, by rw [List.length_take]; omega, unhide HO2, unhide hS, by omega, unhide hT, g, gc, by rw [List.length_take, Nat.min_eq_left (by omega)]; rfl⟩
  · clear hr'
    obtain ⟨i0, hi0', hz0, hz1, hz2⟩ := info_parts Tryz.info41
    have HOWN := hide (fun o => R3.1.alloc o)
    have HBSE := hide (ownsRow_base R3.1)
    have hb63 : l.length + 1 ≤ maxLen := by unfold maxLen; omega
    have hby : (l.length + 1) * 56 ≤ 140737488355328 := by omega
    have hnew := hide (Dv.cell_new w3 M.zero)
    have hone := hide (flat_one [M.zero])
    have hsz := T13.size
    have hS := hide S3
    have hT := hide T13
    clear R3 S3 T13
    go_wp2_with (at_builtin; refine wpList_append_own _ rfl (.tmp 83) (.tmp 85) 24 rfl w.heap.size 41 i0 _ 5 56 Tryz.underlying24 hi0' hz0 hz1 hz2 rfl (by decide) _ l.length _ rfl ((unhide HOWN) _) ⟨w3.heap.size, 0, none⟩ 1 1 (flat [M.zero]) rfl rfl (unhide hnew) (unhide hone) hb63 hby (by simp; omega) ?_)
    intro v' w5 ho5 hg5 _
    have H5 := hide (Dv.rs_push ho5 (by omega))
    have S5 := hide (Dv.grown_src (unhide hS) hg5 (fun k e => by have := (unhide HBSE) k e; omega))
    have T5 := hide (Dv.grown_tch (unhide hT) hg5 (unhide HBSE))
    have HO2 := hide (Dv.ok_app (unhide HOK) M.zero (Dv.ok_mk (by decide) (by decide) (by decide) (by decide) (by decide)))
    obtain ⟨ya, yn, yc, hv5⟩ := (unhide H5).shape
    subst hv5
    clear ho5 hg5 HOWN hnew hone
    go_wp2_with fail
    go_ret
    obtain ⟨g6, c6, h6, _⟩ := Dv.rs_some (unhide H5) (by rw [List.length_append]; simp)
    exact ⟨_, l ++ [M.zero], _, rfl, unhide H5, by rw [List.length_append]; simp; omega, unhide HO2, unhide S5, by omega, unhide T5, g6, c6, h6⟩
  · clear hr'
    go_wp2_with fail
    refine (l1Next_any 2 bs len cap _ a _ S3 (by decide) (by omega)).mono ?_
    rintro e w4 ⟨r4, rfl, hr4, S4, T4⟩
    have hr4' : r4 < 2 := by have := hr4 (by decide); omega
    have R4 := Dv.rs_kept R3 (Dv.Tch.kept T4 hbs)
    have T14 : Tch w.heap.size bs w w4 := T13.trans (T4.mono T13.size)
    clear hr4 T4 S3 R3 T13
    have hws : IntKind.i64.wrap ((20 : Int) + (r4 : Int)) = 20 + (r4 : Int) := IntWalk.i64_in _ ⟨by omega, by omega⟩
    have HD := hide (l1Deep_any (20 + r4) w4 (by omega) (by omega))
    rw [show ((20 + r4 : Nat) : Int) = 20 + (r4 : Int) by omega] at HD
    have hS := hide S4
    have hT := hide T14
    clear R4 S4 T14
    go_wp2_with fail
    refine (unhide HD).mono ?_
    rintro e w5 ⟨s5, l5, rfl, hr5, hl5, hl50, hok5, hb5⟩
    obtain ⟨ya, yn, yc, rfl⟩ := hr5.shape
    obtain ⟨g6, c6, h6, _⟩ := Dv.rs_some hr5 hl50
    have H6 := hide h6
    clear h6
    go_wp2_with fail
    go_ret
    exact ⟨_, l5, _, rfl, hr5.mono (unhide hT).size, by omega, hok5, (unhide hS).below hb5, by omega, (unhide hT).trans ((Tch.of_below' hb5).mono (unhide hT).size), g6, c6, unhide H6⟩
  · clear hr'
    go_wp2_with fail
    refine (l1Next_any 2 bs len cap _ a _ S3 (by decide) (by omega)).mono ?_
    rintro e w4 ⟨r4, rfl, hr4, S4, T4⟩
    have hr4' : r4 < 2 := by have := hr4 (by decide); omega
    have R4 := Dv.rs_kept R3 (Dv.Tch.kept T4 hbs)
    have T14 : Tch w.heap.size bs w w4 := T13.trans (T4.mono T13.size)
    clear hr4 T4 S3 R3 T13
    have hws : IntKind.i64.wrap ((200 : Int) + (r4 : Int)) = 200 + (r4 : Int) := IntWalk.i64_in _ ⟨by omega, by omega⟩
    have hmk := make_cells (200 + r4) (by omega) w4
    rw [show ((200 + r4 : Nat) : Int) = 200 + (r4 : Int) by omega] at hmk
    have RM := Dv.rs_made w4 (200 + r4) (by omega)
    have hS := hide (S4.alloc (.cells (mk5 (200 + r4)) 41))
    have hT := hide (T14.trans ((Tch.of_below' ((Below.refl w4.heap.size w4).alloc (Nat.le_refl _) (.cells (mk5 (200 + r4)) 41))).mono T14.size))
    have hsz := T14.size
    have hlt4 := S4.lt
    have HL := hide (show (List.replicate (200 + r4) M.zero).length = 200 + r4 from List.length_replicate)
    have RM2 := hide (show Rs (w4.alloc (.cells (mk5 (200 + r4)) 41)) w4.heap.size (.slice (some ⟨w4.heap.size, 0, none⟩) (List.replicate (200 + r4) M.zero).length (200 + r4)) (List.replicate (200 + r4) M.zero) by rw [unhide HL]; exact RM)
    clear R4 S4 T14 RM
    obtain ⟨hB, hg, hcp, hcell, hfr, hset⟩ := Dv.rs_at (unhide RM2) (by rw [unhide HL]; omega)
    generalize w4.alloc (.cells (mk5 (200 + r4)) 41) = w5 at *
    have k0 : w5.cell? ⟨w4.heap.size, 0, none⟩ = some (.int .i64 0) := (hcell 0 0 (by rw [unhide HL]; omega) (by decide)).trans (by rw [Dv.zero_at]; rfl)
    have k1 : w5.cell? ⟨w4.heap.size, 1, none⟩ = some (.int .i64 0) := (hcell 0 1 (by rw [unhide HL]; omega) (by decide)).trans (by rw [Dv.zero_at]; rfl)
    have k2 : w5.cell? ⟨w4.heap.size, 2, none⟩ = some (.string ByteArray.empty) := (hcell 0 2 (by rw [unhide HL]; omega) (by decide)).trans (by rw [Dv.zero_at]; rfl)
    have k3 : w5.cell? ⟨w4.heap.size, 3, none⟩ = some (.string ByteArray.empty) := (hcell 0 3 (by rw [unhide HL]; omega) (by decide)).trans (by rw [Dv.zero_at]; rfl)
    have k4 : w5.cell? ⟨w4.heap.size, 4, none⟩ = some (.int .i64 0) := (hcell 0 4 (by rw [unhide HL]; omega) (by decide)).trans (by rw [Dv.zero_at]; rfl)
    have z0 := hfr 0
    have z1 := hfr 1
    have z2 := hfr 2
    have z3 := hfr 3
    have z4 := hfr 4
    have HF := hide (Dv.rs_put5 (unhide RM2) (by rw [unhide HL]; omega) 5 0 ByteArray.empty ByteArray.empty 199)
    have S6 := hide (((((unhide hS).set w4.heap.size 0 (.int .i64 5) (by omega)).set w4.heap.size 1 (.int .i64 0) (by omega)).set w4.heap.size 2 (.string ByteArray.empty) (by omega)).set w4.heap.size 3 (.string ByteArray.empty) (by omega) |>.set w4.heap.size 4 (.int .i64 199) (by omega))
    have T6 := hide (Dv.tch_set (j := 4) (Dv.tch_set (j := 3) (Dv.tch_set (j := 2) (Dv.tch_set (j := 1) (Dv.tch_set (j := 0) (unhide hT) hsz (.int .i64 5)) hsz (.int .i64 0)) hsz (.string ByteArray.empty)) hsz (.string ByteArray.empty)) hsz (.int .i64 199))
    have HO2 := hide (Dv.ok_set (l := List.replicate (200 + r4) M.zero) (fun c hc => by rw [List.eq_of_mem_replicate hc]; exact Dv.ok_mk (by decide) (by decide) (by decide) (by decide) (by decide)) 0 ⟨5, 0, ByteArray.empty, ByteArray.empty, 199⟩ (Dv.ok_mk (by decide) (by decide) (by decide) (by decide) (by decide)))
    rw [unhide HL] at HF
    have HLS := hide (show ((List.replicate (200 + r4) M.zero).set 0 ⟨5, 0, ByteArray.empty, ByteArray.empty, 199⟩).length ≤ 300 by rw [List.length_set, unhide HL]; omega)
    have hnI : (0 : Int) < 200 + (r4 : Int) := by omega
    have hnN : 0 < 200 + r4 := by omega
    clear hcell hfr hset RM2 hS hT
    go_wp2_with fail
    go_ret
    exact ⟨_, _, _, rfl, (unhide HF).mono hsz, unhide HLS, unhide HO2, unhide S6, by omega, unhide T6, w4.heap.size, 200 + r4, by rw [List.length_set, unhide HL]; rfl⟩
  · clear hr'
    have hS := hide S3
    have hT := hide T13
    have HF := hide R3
    clear R3 S3 T13
    have e0 : ((r : Int) == 0) = false := by simp; omega
    have e1 : ((r : Int) == 1) = false := by simp; omega
    have e2 : ((r : Int) == 2) = false := by simp; omega
    have e3 : ((r : Int) == 3) = false := by simp; omega
    have e4 : ((r : Int) == 4) = false := by simp; omega
    have e5 : ((r : Int) == 5) = false := by simp; omega
    have e6 : ((r : Int) == 6) = false := by simp; omega
    have e7 : ((r : Int) == 7) = false := by simp; omega
    have e8 : ((r : Int) == 8) = false := by simp; omega
    go_wp2_with fail
    go_ret
    exact ⟨_, l, _, rfl, unhide HF, by omega, unhide HOK, unhide hS, by omega, unhide hT, g, gc, rfl⟩

end Go.Proofs.YtikeffckhklhbaaGreatDoor
