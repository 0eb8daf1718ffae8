/-
  spec.l1Value: values of a depth.
-/
import Derived.Test.YtikeffckhklhbaaGreatDoorX31
import Derived.Test.YtikeffckhklhbaaGreatDoorX41
import Derived.Test.YtikeffckhklhbaaGreatDoorX42
namespace Go.Proofs.YtikeffckhklhbaaGreatDoor
open Go.RowKit
set_option linter.unusedVariables false
set_option linter.unusedSimpArgs false

theorem Dv.owns_sh {w : World} {base : Nat} {e : TypeId} {size : Nat} {v : Value} {n : Nat} {xs : List Value} (h : w.ownsRow base e size v n xs) : ∃ a k c, v = .slice a k c := by
  obtain ⟨_, ⟨h2, _⟩ | ⟨g, cap, cur, h3, _⟩⟩ := h
  · exact ⟨_, _, _, h2⟩
  · exact ⟨_, _, _, h3⟩
set_option maxRecDepth 100000 in
set_option maxHeartbeats 4000000 in
theorem Dv.says_more (d : Int) (N K : Nat) (hd : 2 ≤ d) (hd2 : d ≤ 10) (mx : Nat) (hrec : Dv.Says (d - 1) N K (mx + 4000)) (hN1 : 1 ≤ N) (hN : N ≤ 100) (hK : 6 ≤ K) (hK2 : K ≤ 1000) (hmx : mx ≤ 900000000) : Dv.Says d (1 + 3 * N) (10 + 3 * (K + 1)) mx := by
  intro bs len cap at_ a w h hat
  have hbs := h.lt
  have hdI : ¬ d ≤ 1 := by omega
  have hwd : IntKind.i64.wrap (d - 1) = d - 1 := IntWalk.i64_in _ ⟨by omega, by omega⟩
  have HREC := hide hrec
  clear hrec
  obtain ⟨i0, hi0, hz0, hz1, hz2⟩ := info_parts Tryz.info24
  obtain ⟨t0, ht0, hy0, hy1, hy2⟩ := info_parts Tryz.info9
  go_enter Tryz.func27, Tryz.ntmps27
  go_wp2_with fail
  refine (l1Next_any 10 bs len cap at_ a _ h (by decide) (by omega)).mono ?_
  rintro e w1 ⟨r, rfl, hr, S1, T1⟩
  have hr' : r < 10 := by have := hr (by decide); omega
  clear hr h
  obtain rfl | rfl | rfl | rfl | rfl | rfl | rfl | rfl | rfl | rfl : r = 0 ∨ r = 1 ∨ r = 2 ∨ r = 3 ∨ r = 4 ∨ r = 5 ∨ r = 6 ∨ r = 7 ∨ r = 8 ∨ r = 9 := by omega
  · clear hr'
    go_wp2_with fail
    go_ret
    exact Dv.out_one (c := ⟨0, 0, ByteArray.empty, ByteArray.empty, 0⟩) T1 S1 ⟨one_own w1 w1.heap.size w1.heap.size ⟨0, 0, ByteArray.empty, ByteArray.empty, 0⟩ rfl (Nat.le_refl _), by simp⟩ ((Below.refl _ _).alloc (Nat.le_refl _) _) rfl (Dv.ok_kind 0 (by decide)) (by omega) (by omega)
  · clear hr'
    go_wp2_with fail
    go_ret
    exact Dv.out_one (c := ⟨1, 0, ByteArray.empty, ByteArray.empty, 0⟩) T1 S1 ⟨one_own w1 w1.heap.size w1.heap.size ⟨1, 0, ByteArray.empty, ByteArray.empty, 0⟩ rfl (Nat.le_refl _), by simp⟩ ((Below.refl _ _).alloc (Nat.le_refl _) _) rfl (Dv.ok_kind 1 (by decide)) (by omega) (by omega)
  · clear hr'
    go_wp2_with fail
    go_ret
    exact Dv.out_one (c := ⟨2, 0, ByteArray.empty, ByteArray.empty, 0⟩) T1 S1 ⟨one_own w1 w1.heap.size w1.heap.size ⟨2, 0, ByteArray.empty, ByteArray.empty, 0⟩ rfl (Nat.le_refl _), by simp⟩ ((Below.refl _ _).alloc (Nat.le_refl _) _) rfl (Dv.ok_kind 2 (by decide)) (by omega) (by omega)
  · clear hr'
    go_wp2_with fail
    refine (l1Next_any 9 bs len cap _ a _ S1 (by decide) (by omega)).mono ?_
    rintro e w2 ⟨r1, rfl, hr1, S2, T2⟩
    have hr1' := hr1 (by decide)
    clear hr1
    go_wp2_with fail
    refine (l1Next_any 9 bs len cap _ a _ S2 (by decide) (by omega)).mono ?_
    rintro e w3 ⟨r2, rfl, hr2, S3, T3⟩
    have hr2' := hr2 (by decide)
    clear hr2
    go_wp2_with fail
    refine (l1Next_any 40 bs len cap _ a _ S3 (by decide) (by omega)).mono ?_
    rintro e w4 ⟨r3, rfl, hr3, S4, T4⟩
    have hr3' := hr3 (by decide)
    clear hr3
    have T14 : Tch w.heap.size bs w w4 := ((T1.trans (T2.mono T1.size)).trans (T3.mono (Nat.le_trans T1.size T2.size))).trans (T4.mono (Nat.le_trans T1.size (Nat.le_trans T2.size T3.size)))
    have hng : IntKind.i64.wrap (-(r3 : Int)) = -(r3 : Int) := IntWalk.i64_in _ ⟨by omega, by omega⟩
    have hlt := S4.lt
    have HPK := hide (l1Pick_any [(r1 : Int), (r2 : Int), -(r3 : Int), 1000000000000000] w4.heap.size bs len cap _ a (w4.alloc (.cells #[.int .i64 (r1 : Int), .int .i64 (r2 : Int), .int .i64 (-(r3 : Int)), .int .i64 1000000000000000] 2)) (S4.alloc _) ⟨_, heap_alloc_new _ _, rfl⟩ (by omega) (by simp) (by simp) (by omega))
    clear S1 S2 S3 T1 T2 T3 T4
    go_wp2_with fail
    refine (unhide HPK).mono ?_
    rintro e w5 ⟨⟨x, hx, rfl⟩, S5, T5⟩
    have hxb : -1000000000000000 ≤ x ∧ x ≤ 1000000000000000 := by
      simp only [List.mem_cons, List.not_mem_nil, or_false] at hx
      omega
    have T15 : Tch w.heap.size bs w w5 := (T14.trans ((Tch.of_below' ((Below.refl _ _).alloc (Nat.le_refl _) _)).mono T14.size)).trans (T5.mono (by simp; have := T14.size; omega))
    clear hx HPK T14 T5 S4 hng
    go_wp2_with fail
    refine (l1NumberO_any x _).mono ?_
    rintro e w6 ⟨s6, rfl, hr6, hb6⟩
    obtain ⟨a6, n6, c6, rfl⟩ := hr6.shape
    go_wp2_with fail
    go_ret
    exact Dv.out_one T15 S5 hr6 hb6 rfl (Dv.ok_num x hxb) (by omega) (by omega)
  · clear hr'
    go_wp2_with fail
    refine (l1Next_any 9 bs len cap _ a _ S1 (by decide) (by omega)).mono ?_
    rintro e w2 ⟨r1, rfl, hr1, S2, T2⟩
    have hr1' := hr1 (by decide)
    clear hr1
    go_wp2_with fail
    refine (l1Next_any 9 bs len cap _ a _ S2 (by decide) (by omega)).mono ?_
    rintro e w3 ⟨r2, rfl, hr2, S3, T3⟩
    have hr2' := hr2 (by decide)
    clear hr2
    go_wp2_with fail
    refine (l1Next_any 40 bs len cap _ a _ S3 (by decide) (by omega)).mono ?_
    rintro e w4 ⟨r3, rfl, hr3, S4, T4⟩
    have hr3' := hr3 (by decide)
    clear hr3
    have T14 : Tch w.heap.size bs w w4 := ((T1.trans (T2.mono T1.size)).trans (T3.mono (Nat.le_trans T1.size T2.size))).trans (T4.mono (Nat.le_trans T1.size (Nat.le_trans T2.size T3.size)))
    have hng : IntKind.i64.wrap (-(r3 : Int)) = -(r3 : Int) := IntWalk.i64_in _ ⟨by omega, by omega⟩
    have hlt := S4.lt
    have HPK := hide (l1Pick_any [(r1 : Int), (r2 : Int), -(r3 : Int), 1000000000000000] w4.heap.size bs len cap _ a (w4.alloc (.cells #[.int .i64 (r1 : Int), .int .i64 (r2 : Int), .int .i64 (-(r3 : Int)), .int .i64 1000000000000000] 2)) (S4.alloc _) ⟨_, heap_alloc_new _ _, rfl⟩ (by omega) (by simp) (by simp) (by omega))
    clear S1 S2 S3 T1 T2 T3 T4
    go_wp2_with fail
    refine (unhide HPK).mono ?_
    rintro e w5 ⟨⟨x, hx, rfl⟩, S5, T5⟩
    have hxb : -1000000000000000 ≤ x ∧ x ≤ 1000000000000000 := by
      simp only [List.mem_cons, List.not_mem_nil, or_false] at hx
      omega
    have T15 : Tch w.heap.size bs w w5 := (T14.trans ((Tch.of_below' ((Below.refl _ _).alloc (Nat.le_refl _) _)).mono T14.size)).trans (T5.mono (by simp; have := T14.size; omega))
    clear hx HPK T14 T5 S4 hng
    go_wp2_with fail
    refine (l1NumberO_any x _).mono ?_
    rintro e w6 ⟨s6, rfl, hr6, hb6⟩
    obtain ⟨a6, n6, c6, rfl⟩ := hr6.shape
    go_wp2_with fail
    go_ret
    exact Dv.out_one T15 S5 hr6 hb6 rfl (Dv.ok_num x hxb) (by omega) (by omega)
  · clear hr'
    go_wp2_with fail
    refine (l1Next_any 9 bs len cap _ a _ S1 (by decide) (by omega)).mono ?_
    rintro e w2 ⟨r1, rfl, hr1, S2, T2⟩
    have hr1' := hr1 (by decide)
    clear hr1
    go_wp2_with fail
    refine (l1Next_any 9 bs len cap _ a _ S2 (by decide) (by omega)).mono ?_
    rintro e w3 ⟨r2, rfl, hr2, S3, T3⟩
    have hr2' := hr2 (by decide)
    clear hr2
    go_wp2_with fail
    refine (l1Next_any 40 bs len cap _ a _ S3 (by decide) (by omega)).mono ?_
    rintro e w4 ⟨r3, rfl, hr3, S4, T4⟩
    have hr3' := hr3 (by decide)
    clear hr3
    have T14 : Tch w.heap.size bs w w4 := ((T1.trans (T2.mono T1.size)).trans (T3.mono (Nat.le_trans T1.size T2.size))).trans (T4.mono (Nat.le_trans T1.size (Nat.le_trans T2.size T3.size)))
    have hng : IntKind.i64.wrap (-(r3 : Int)) = -(r3 : Int) := IntWalk.i64_in _ ⟨by omega, by omega⟩
    have hlt := S4.lt
    have HPK := hide (l1Pick_any [(r1 : Int), (r2 : Int), -(r3 : Int), 1000000000000000] w4.heap.size bs len cap _ a (w4.alloc (.cells #[.int .i64 (r1 : Int), .int .i64 (r2 : Int), .int .i64 (-(r3 : Int)), .int .i64 1000000000000000] 2)) (S4.alloc _) ⟨_, heap_alloc_new _ _, rfl⟩ (by omega) (by simp) (by simp) (by omega))
    clear S1 S2 S3 T1 T2 T3 T4
    go_wp2_with fail
    refine (unhide HPK).mono ?_
    rintro e w5 ⟨⟨x, hx, rfl⟩, S5, T5⟩
    have hxb : -1000000000000000 ≤ x ∧ x ≤ 1000000000000000 := by
      simp only [List.mem_cons, List.not_mem_nil, or_false] at hx
      omega
    have T15 : Tch w.heap.size bs w w5 := (T14.trans ((Tch.of_below' ((Below.refl _ _).alloc (Nat.le_refl _) _)).mono T14.size)).trans (T5.mono (by simp; have := T14.size; omega))
    clear hx HPK T14 T5 S4 hng
    go_wp2_with fail
    refine (l1NumberO_any x _).mono ?_
    rintro e w6 ⟨s6, rfl, hr6, hb6⟩
    obtain ⟨a6, n6, c6, rfl⟩ := hr6.shape
    go_wp2_with fail
    go_ret
    exact Dv.out_one T15 S5 hr6 hb6 rfl (Dv.ok_num x hxb) (by omega) (by omega)
  · clear hr'
    go_wp2_with fail
    refine (l1Word_any bs len cap _ a _ S1 (by omega)).mono ?_
    rintro e w2 ⟨⟨t, rfl, ht⟩, S2, T2⟩
    have T12 : Tch w.heap.size bs w w2 := T1.trans (T2.mono T1.size)
    clear T1 T2 S1
    go_wp2_with fail
    refine (l1StringO_any t _).mono ?_
    rintro e w6 ⟨s6, rfl, hr6, hb6⟩
    obtain ⟨a6, n6, c6, rfl⟩ := hr6.shape
    go_wp2_with fail
    go_ret
    exact Dv.out_one T12 S2 hr6 hb6 rfl (Dv.ok_str t ht) (by omega) (by omega)
  · clear hr'
    have L1 : Dv.Lp w (w1.alloc (.cells #[] 24)) bs a len cap N (.slice none 0 0) (.slice (some ⟨w1.heap.size, 0, none⟩) 0 0) [] [] (at_ + 1) :=
      ⟨⟨Dc.ks_nil _ _, SS.empty w1 w.heap.size w1.heap.size rfl T1.size⟩, fun j hj => absurd hj (by simp), fun j hj => absurd hj (by simp), fun j hj => absurd hj (by simp), fun j hj => absurd hj (by simp), S1.alloc _, T1.trans ((Tch.of_below' ((Below.refl _ _).alloc (Nat.le_refl _) _)).mono T1.size), hbs⟩
    have HL1 := hide L1
    clear L1 S1 T1
    go_wp2_with fail
    refine (l1Next_any 4 bs len cap _ a _ (unhide HL1).src (by decide) (by omega)).mono ?_
    rintro e w2 ⟨n, rfl, hn, S2, T2⟩
    have hn4 : n < 4 := by have := hn (by decide); omega
    have L2 := (unhide HL1).call S2 T2
    clear hn S2 T2 HL1
    go_wp2_with fail
    go_loopg [6, 7] n (fun gh s6 s7 wr => ∃ (m at2 : Nat) (ps : List (List M.Cl)), Hid (gh = m) ∧ s7 = .int .i64 m ∧ ps.length + m ≤ 3 ∧ Hid (at2 + m * K ≤ at_ + 2 + 3 * K) ∧ at2 ≤ mx + 4000 ∧ Hid (Dv.Lp w wr bs a len cap N (.slice none 0 0) s6 [] ps at2))
    case atStart => exact ⟨n, at_ + 2, [], rfl, rfl, by simp; omega, by (show _ ≤ _; have : n * K ≤ 3 * K := Nat.mul_le_mul_right _ (by omega); omega), by omega, L2⟩
    case round =>
    clear L2
    obtain ⟨m, at2, ps, hg, rfl, hpm, hat2, hat3, HLP⟩ := hrel
    obtain ⟨ss0, hsl00, hown0, _⟩ := (unhide HLP).rw.list
    obtain ⟨xa0, xn0, xc0, hs60⟩ := Dv.owns_sh hown0
    subst hs60
    clear hown0 hsl00
    by_cases hm : 0 < m
    · obtain ⟨m', rfl⟩ : ∃ m', m = m' + 1 := ⟨m - 1, by omega⟩
      have hmI : (0 : Int) < ((m' + 1 : Nat) : Int) := by omega
      have hwm : IntKind.i64.wrap ((m' : Int)) = (m' : Int) := IntWalk.i64_in _ ⟨by omega, by omega⟩
      have hmm : ((m' + 1 : Nat) : Int) - 1 = (m' : Int) := by omega
      have hK1 : (m' + 1) * K = m' * K + K := by rw [Nat.add_mul, Nat.one_mul]
      have HKB := hide hK1
      have HV := hide ((unhide HREC) bs len cap at2 a wr (unhide HLP).src (by have := hat2.out; omega))
      clear hK1
      go_wp2_with fail
      refine (unhide HV).mono ?_
      rintro e w5 ⟨s5, l5, at5, rfl, hr5, hb5, hl5, hok5, S5, hat5, T5⟩
      have L5 := (unhide HLP).call S5 T5
      have hs5 : w.heap.size ≤ wr.heap.size := (unhide HLP).tch.size
      obtain ⟨a5, n5, c5, rfl⟩ := hr5.shape
      clear HV S5 T5 HLP
      obtain ⟨ss, hsl, hown, hres⟩ := L5.rw.list
      have HPT := hide (fun (W : World) (v' : Value) (o : Obj) hg ho => L5.part (w3 := W) (v' := v') (o := o) (hr5.mono hs5).res hb5 hl5 hok5 hsl hown hres hg ho)
      have hown' := hide (fun o => hown.alloc o)
      have hone := hide (one_val w5 (.slice a5 n5 c5) 24)
      have honep := hide (one_plain' a5 n5 c5)
      have hb63 : ps.length + 1 ≤ maxLen := by unfold maxLen; omega
      have hby : (ps.length + 1) * 24 ≤ 140737488355328 := by omega
      have hsz5 := L5.tch.size
      clear L5 hr5 hb5 hok5 hown hres hsl
      go_wp2_with (at_builtin; refine wpList_append_own _ rfl (.tmp 59) (.tmp 64) 108 rfl w.heap.size 24 i0 (.slice none 0 0) 1 24 Tryz.underlying108 hi0 hz0 hz1 hz2 rfl (by decide) _ ps.length ss rfl ((unhide hown') _) ⟨w5.heap.size, 0, none⟩ 1 1 [.slice a5 n5 c5] rfl rfl (unhide hone) (unhide honep) hb63 hby (by simp; omega) ?_)
      intro v7 w7 ho7 hg7 _
      have H7 := hide ((unhide HPT) w7 v7 _ hg7 ho7)
      obtain ⟨ya, yn, yc, hv7⟩ := Dv.owns_sh ho7
      subst hv7
      clear ho7 hg7 HPT hown' hone honep
      go_wp2_with fail
      go_roundg m'
      case rel => exact ⟨m', at5, ps ++ [l5], rfl, by first | rfl | go_num | (simp; omega), by rw [List.length_append]; simp; omega, by (show _ ≤ _; have := hat2.out; have := unhide HKB; omega), by have := hat2.out; have := unhide HKB; omega, unhide H7⟩
      case measure => have := hg.out; omega
    · have hm0 : m = 0 := by omega
      subst hm0
      have LF := unhide HLP
      obtain ⟨a8, c8, hv8, hc8, hlv⟩ := LF.rw.list.lv (Dc.bare_ne LF.bare)
      have htot := Dv.tot_le3 LF.sz ps.length (Nat.le_refl _)
      have hp3 : ps.length ≤ 3 := by omega
      have htN : ps.length * N ≤ 3 * N := Nat.mul_le_mul_right _ hp3
      have HA8 := hide (l1ArrayO_any a8 c8 ps wr hlv hc8 (by omega) (by omega) LF.bare)
      have HLEN := hide (J.made_len false [] ps (fun h => by cases h))
      have HBAR := hide (J.made_bare false [] ps)
      have HOK := hide (arrK_ok ps (by omega) LF.ok ps.length (Nat.le_refl _))
      have HLF := hide LF
      rw [hv8]
      clear LF hlv HLP hv8
      go_wp2_with fail
      refine (unhide HA8).mono ?_
      rintro e w9 ⟨s9, rfl, hr9, hb9⟩
      obtain ⟨a9, n9, c9, rfl⟩ := hr9.shape
      go_wp2_with fail
      go_ret
      have LF := unhide HLF
      refine ⟨_, arrV ps, at2, rfl, hr9.mono LF.tch.size, unhide HBAR, ?_, unhide HOK, LF.src.below hb9, ?_, LF.tch.trans ((Tch.of_below' hb9).mono LF.tch.size)⟩
      · have := (unhide HLEN).2
        show (J.madeV false [] ps).length ≤ _
        omega
      · have := hat2.out
        omega
  · clear hr'
    have L1 : Dv.Lp w (w1.alloc (.cells #[] 24)) bs a len cap N (.slice none 0 0) (.slice (some ⟨w1.heap.size, 0, none⟩) 0 0) [] [] (at_ + 1) :=
      ⟨⟨Dc.ks_nil _ _, SS.empty w1 w.heap.size w1.heap.size rfl T1.size⟩, fun j hj => absurd hj (by simp), fun j hj => absurd hj (by simp), fun j hj => absurd hj (by simp), fun j hj => absurd hj (by simp), S1.alloc _, T1.trans ((Tch.of_below' ((Below.refl _ _).alloc (Nat.le_refl _) _)).mono T1.size), hbs⟩
    have HL1 := hide L1
    clear L1 S1 T1
    go_wp2_with fail
    refine (l1Next_any 4 bs len cap _ a _ (unhide HL1).src (by decide) (by omega)).mono ?_
    rintro e w2 ⟨n, rfl, hn, S2, T2⟩
    have hn4 : n < 4 := by have := hn (by decide); omega
    have L2 := (unhide HL1).call S2 T2
    clear hn S2 T2 HL1
    go_wp2_with fail
    go_loopg [6, 7] n (fun gh s6 s7 wr => ∃ (m at2 : Nat) (ps : List (List M.Cl)), Hid (gh = m) ∧ s7 = .int .i64 m ∧ ps.length + m ≤ 3 ∧ Hid (at2 + m * K ≤ at_ + 2 + 3 * K) ∧ at2 ≤ mx + 4000 ∧ Hid (Dv.Lp w wr bs a len cap N (.slice none 0 0) s6 [] ps at2))
    case atStart => exact ⟨n, at_ + 2, [], rfl, rfl, by simp; omega, by (show _ ≤ _; have : n * K ≤ 3 * K := Nat.mul_le_mul_right _ (by omega); omega), by omega, L2⟩
    case round =>
    clear L2
    obtain ⟨m, at2, ps, hg, rfl, hpm, hat2, hat3, HLP⟩ := hrel
    obtain ⟨ss0, hsl00, hown0, _⟩ := (unhide HLP).rw.list
    obtain ⟨xa0, xn0, xc0, hs60⟩ := Dv.owns_sh hown0
    subst hs60
    clear hown0 hsl00
    by_cases hm : 0 < m
    · obtain ⟨m', rfl⟩ : ∃ m', m = m' + 1 := ⟨m - 1, by omega⟩
      have hmI : (0 : Int) < ((m' + 1 : Nat) : Int) := by omega
      have hwm : IntKind.i64.wrap ((m' : Int)) = (m' : Int) := IntWalk.i64_in _ ⟨by omega, by omega⟩
      have hmm : ((m' + 1 : Nat) : Int) - 1 = (m' : Int) := by omega
      have hK1 : (m' + 1) * K = m' * K + K := by rw [Nat.add_mul, Nat.one_mul]
      have HKB := hide hK1
      have HV := hide ((unhide HREC) bs len cap at2 a wr (unhide HLP).src (by have := hat2.out; omega))
      clear hK1
      go_wp2_with fail
      refine (unhide HV).mono ?_
      rintro e w5 ⟨s5, l5, at5, rfl, hr5, hb5, hl5, hok5, S5, hat5, T5⟩
      have L5 := (unhide HLP).call S5 T5
      have hs5 : w.heap.size ≤ wr.heap.size := (unhide HLP).tch.size
      obtain ⟨a5, n5, c5, rfl⟩ := hr5.shape
      clear HV S5 T5 HLP
      obtain ⟨ss, hsl, hown, hres⟩ := L5.rw.list
      have HPT := hide (fun (W : World) (v' : Value) (o : Obj) hg ho => L5.part (w3 := W) (v' := v') (o := o) (hr5.mono hs5).res hb5 hl5 hok5 hsl hown hres hg ho)
      have hown' := hide (fun o => hown.alloc o)
      have hone := hide (one_val w5 (.slice a5 n5 c5) 24)
      have honep := hide (one_plain' a5 n5 c5)
      have hb63 : ps.length + 1 ≤ maxLen := by unfold maxLen; omega
      have hby : (ps.length + 1) * 24 ≤ 140737488355328 := by omega
      have hsz5 := L5.tch.size
      clear L5 hr5 hb5 hok5 hown hres hsl
      go_wp2_with (at_builtin; refine wpList_append_own _ rfl (.tmp 59) (.tmp 64) 108 rfl w.heap.size 24 i0 (.slice none 0 0) 1 24 Tryz.underlying108 hi0 hz0 hz1 hz2 rfl (by decide) _ ps.length ss rfl ((unhide hown') _) ⟨w5.heap.size, 0, none⟩ 1 1 [.slice a5 n5 c5] rfl rfl (unhide hone) (unhide honep) hb63 hby (by simp; omega) ?_)
      intro v7 w7 ho7 hg7 _
      have H7 := hide ((unhide HPT) w7 v7 _ hg7 ho7)
      obtain ⟨ya, yn, yc, hv7⟩ := Dv.owns_sh ho7
      subst hv7
      clear ho7 hg7 HPT hown' hone honep
      go_wp2_with fail
      go_roundg m'
      case rel => exact ⟨m', at5, ps ++ [l5], rfl, by first | rfl | go_num | (simp; omega), by rw [List.length_append]; simp; omega, by (show _ ≤ _; have := hat2.out; have := unhide HKB; omega), by have := hat2.out; have := unhide HKB; omega, unhide H7⟩
      case measure => have := hg.out; omega
    · have hm0 : m = 0 := by omega
      subst hm0
      have LF := unhide HLP
      obtain ⟨a8, c8, hv8, hc8, hlv⟩ := LF.rw.list.lv (Dc.bare_ne LF.bare)
      have htot := Dv.tot_le3 LF.sz ps.length (Nat.le_refl _)
      have hp3 : ps.length ≤ 3 := by omega
      have htN : ps.length * N ≤ 3 * N := Nat.mul_le_mul_right _ hp3
      have HA8 := hide (l1ArrayO_any a8 c8 ps wr hlv hc8 (by omega) (by omega) LF.bare)
      have HLEN := hide (J.made_len false [] ps (fun h => by cases h))
      have HBAR := hide (J.made_bare false [] ps)
      have HOK := hide (arrK_ok ps (by omega) LF.ok ps.length (Nat.le_refl _))
      have HLF := hide LF
      rw [hv8]
      clear LF hlv HLP hv8
      go_wp2_with fail
      refine (unhide HA8).mono ?_
      rintro e w9 ⟨s9, rfl, hr9, hb9⟩
      obtain ⟨a9, n9, c9, rfl⟩ := hr9.shape
      go_wp2_with fail
      go_ret
      have LF := unhide HLF
      refine ⟨_, arrV ps, at2, rfl, hr9.mono LF.tch.size, unhide HBAR, ?_, unhide HOK, LF.src.below hb9, ?_, LF.tch.trans ((Tch.of_below' hb9).mono LF.tch.size)⟩
      · have := (unhide HLEN).2
        show (J.madeV false [] ps).length ≤ _
        omega
      · have := hat2.out
        omega
  · clear hr'
    have L1 : Dv.Lp w ((w1.alloc (.cells #[] 9)).alloc (.cells #[] 24)) bs a len cap N (.slice (some ⟨w1.heap.size, 0, none⟩) 0 0) (.slice (some ⟨w1.heap.size + 1, 0, none⟩) 0 0) [] [] (at_ + 1) :=
      ⟨⟨Dc.ks_alloc (Dc.ks_empty w1 w.heap.size w1.heap.size rfl T1.size) _, SS.empty _ w.heap.size (w1.heap.size + 1) (by simp) (by have := T1.size; omega)⟩, fun j hj => absurd hj (by simp), fun j hj => absurd hj (by simp), fun j hj => absurd hj (by simp), fun j hj => absurd hj (by simp), (S1.alloc _).alloc _, T1.trans ((Tch.of_below' (((Below.refl _ _).alloc (Nat.le_refl _) _).alloc (by simp) _)).mono T1.size), hbs⟩
    have HL1 := hide L1
    clear L1 S1 T1
    go_wp2_with fail
    refine (l1Next_any 4 bs len cap _ a _ (unhide HL1).src (by decide) (by omega)).mono ?_
    rintro e w2 ⟨n, rfl, hn, S2, T2⟩
    have hn4 : n < 4 := by have := hn (by decide); omega
    have L2 := (unhide HL1).call S2 T2
    clear hn S2 T2 HL1
    go_wp2_with fail
    go_loopg [8, 9, 10] n (fun gh s8 s9 s10 wr => ∃ (m at2 : Nat) (ks : List ByteArray) (ps : List (List M.Cl)), Hid (gh = m) ∧ s10 = .int .i64 m ∧ Hid (ks.length = ps.length) ∧ ps.length + m ≤ 3 ∧ Hid (at2 + m * (K + 1) ≤ at_ + 2 + 3 * (K + 1)) ∧ at2 ≤ mx + 4000 ∧ Hid (Dv.Lp w wr bs a len cap N s8 s9 ks ps at2))
    case atStart => exact ⟨n, at_ + 2, [], [], rfl, rfl, rfl, by simp; omega, by (show _ ≤ _; have : n * (K + 1) ≤ 3 * (K + 1) := Nat.mul_le_mul_right _ (by omega); omega), by omega, L2⟩
    case round =>
    clear L2
    obtain ⟨m, at2, ks, ps, hg, rfl, hkl, hpm, hat2, hat3, HLP⟩ := hrel
    obtain ⟨ss0, hsl00, hown0, _⟩ := (unhide HLP).rw.list
    obtain ⟨xa0, xn0, xc0, hs90⟩ := Dv.owns_sh hown0
    subst hs90
    obtain ⟨za0, zn0, zc0, hs80⟩ := Dv.owns_sh (unhide HLP).rw.keys
    subst hs80
    clear hown0 hsl00
    by_cases hm : 0 < m
    · obtain ⟨m', rfl⟩ : ∃ m', m = m' + 1 := ⟨m - 1, by omega⟩
      have hmI : (0 : Int) < ((m' + 1 : Nat) : Int) := by omega
      have hwm : IntKind.i64.wrap ((m' : Int)) = (m' : Int) := IntWalk.i64_in _ ⟨by omega, by omega⟩
      have hmm : ((m' + 1 : Nat) : Int) - 1 = (m' : Int) := by omega
      have hK1 : (m' + 1) * (K + 1) = m' * (K + 1) + (K + 1) := by rw [Nat.add_mul, Nat.one_mul]
      have HKB := hide hK1
      clear hK1
      go_wp2_with fail
      refine (l1Key_any bs len cap at2 a wr (unhide HLP).src (by omega)).mono ?_
      rintro e w3 ⟨⟨key, rfl, hks⟩, S3, T3⟩
      have L3 := (unhide HLP).call S3 T3
      have HKY := hide (fun (W : World) (v' : Value) (o : Obj) hg ho => L3.key (w3 := W) (v' := v') (o := o) hks hg ho)
      have hkown := hide (fun o => Dc.ks_alloc L3.rw.keys o)
      have hkone := hide (one_val w3 (.string key) 9)
      have hkonep := hide (Dc.one_str key)
      have hkl' := hkl.out
      have hk63 : ks.length + 1 ≤ maxLen := by unfold maxLen; omega
      have hkby : (ks.length + 1) * 16 ≤ 140737488355328 := by omega
      have hsz3 := L3.tch.size
      clear S3 T3 HLP L3 hks hkl'
      go_wp2_with (at_builtin; refine wpList_append_own _ rfl (.tmp 76) (.tmp 79) 70 rfl w.heap.size 9 t0 (.string ByteArray.empty) 1 16 Tryz.underlying70 ht0 hy0 hy1 hy2 rfl (by decide) _ ks.length _ rfl ((unhide hkown) _) ⟨w3.heap.size, 0, none⟩ 1 1 [.string key] rfl rfl (unhide hkone) (unhide hkonep) hk63 hkby (by simp; omega) ?_)
      intro v4 w4 ho4 hg4 _
      have H4 := hide ((unhide HKY) w4 v4 _ hg4 ho4)
      obtain ⟨ka, kn, kc, hv4⟩ := Dv.owns_sh ho4
      subst hv4
      clear ho4 hg4 HKY hkown hkone hkonep hk63 hkby
      have HV := hide ((unhide HREC) bs len cap (at2 + 1) a w4 (unhide H4).src (by have := hat2.out; have := unhide HKB; omega))
      have HKN := hide (show (ks ++ [key]).length = ps.length + 1 by rw [List.length_append, hkl.out]; rfl)
      generalize ks ++ [key] = ks2 at *
      go_wp2_with fail
      refine (unhide HV).mono ?_
      rintro e w5 ⟨s5, l5, at5, rfl, hr5, hb5, hl5, hok5, S5, hat5, T5⟩
      have L5 := (unhide H4).call S5 T5
      have hs5 : w.heap.size ≤ w4.heap.size := (unhide H4).tch.size
      obtain ⟨a5, n5, c5, rfl⟩ := hr5.shape
      clear HV S5 T5 H4
      obtain ⟨ss, hsl, hown, hres⟩ := L5.rw.list
      have HPT := hide (fun (W : World) (v' : Value) (o : Obj) hg ho => L5.part (w3 := W) (v' := v') (o := o) (hr5.mono hs5).res hb5 hl5 hok5 hsl hown hres hg ho)
      have hown' := hide (fun o => hown.alloc o)
      have hone := hide (one_val w5 (.slice a5 n5 c5) 24)
      have honep := hide (one_plain' a5 n5 c5)
      have hb63 : ps.length + 1 ≤ maxLen := by unfold maxLen; omega
      have hby : (ps.length + 1) * 24 ≤ 140737488355328 := by omega
      have hsz5 := L5.tch.size
      clear L5 hr5 hb5 hok5 hown hres hsl
      go_wp2_with (at_builtin; refine wpList_append_own _ rfl (.tmp 81) (.tmp 86) 108 rfl w.heap.size 24 i0 (.slice none 0 0) 1 24 Tryz.underlying108 hi0 hz0 hz1 hz2 rfl (by decide) _ ps.length ss rfl ((unhide hown') _) ⟨w5.heap.size, 0, none⟩ 1 1 [.slice a5 n5 c5] rfl rfl (unhide hone) (unhide honep) hb63 hby (by simp; omega) ?_)
      intro v7 w7 ho7 hg7 _
      have H7 := hide ((unhide HPT) w7 v7 _ hg7 ho7)
      obtain ⟨ya, yn, yc, hv7⟩ := Dv.owns_sh ho7
      subst hv7
      clear ho7 hg7 HPT hown' hone honep
      go_wp2_with fail
      go_roundg m'
      case rel => exact ⟨m', at5, ks2, ps ++ [l5], rfl, by first | rfl | go_num | (simp; omega), by (show _ = _; rw [unhide HKN, List.length_append]; rfl), by rw [List.length_append]; simp; omega, by (show _ ≤ _; have := hat2.out; have := unhide HKB; omega), by have := hat2.out; have := unhide HKB; omega, unhide H7⟩
      case measure => have := hg.out; omega
    · have hm0 : m = 0 := by omega
      subst hm0
      have LF := unhide HLP
      obtain ⟨a8, c8, hv8, hc8, hlv⟩ := LF.rw.list.lv (Dc.bare_ne LF.bare)
      obtain ⟨b8, d8, hv8', hd8, htv⟩ := LF.rw.keys.tv
      have htot := Dv.tot_le3 LF.sz ps.length (Nat.le_refl _)
      have hp3 : ps.length ≤ 3 := by omega
      have htN : ps.length * N ≤ 3 * N := Nat.mul_le_mul_right _ hp3
      have hkl' := hkl.out
      have HA8 := hide (l1ObjectO_any b8 a8 d8 c8 ks ps wr htv hlv hd8 hc8 hkl' (by omega) (fun j hj => (LF.bare j hj).1) (by omega))
      have HLEN := hide (J.made_len true ks ps (fun _ => hkl'))
      have HBAR := hide (J.made_bare true ks ps)
      have HOK := hide (objK_ok ks ps (St.stand ks ks.length) (by have := St.stand_length ks ks.length; omega) (fun p hp => LF.ok p (by have := St.stand_lt ks ks.length p hp; omega)) (fun p hp => by have := LF.kok p (St.stand_lt ks ks.length p hp); omega) (St.stand ks ks.length).length (Nat.le_refl _))
      have HLF := hide LF
      have HKL := hide hkl'
      rw [hv8, hv8']
      clear LF hlv htv HLP hv8 hv8' hkl' hkl
      go_wp2_with fail
      refine (unhide HA8).mono ?_
      rintro e w9 ⟨s9, rfl, hr9, hb9⟩
      obtain ⟨a9, n9, c9, rfl⟩ := hr9.shape
      go_wp2_with fail
      go_ret
      have LF := unhide HLF
      refine ⟨_, objV ks ps, at2, rfl, hr9.mono LF.tch.size, unhide HBAR, ?_, unhide HOK, LF.src.below hb9, ?_, LF.tch.trans ((Tch.of_below' hb9).mono LF.tch.size)⟩
      · have := (unhide HLEN).2
        show (J.madeV true ks ps).length ≤ _
        omega
      · have := hat2.out
        omega

theorem Dv.says_2 : Dv.Says 2 4 31 800000000 := Dv.says_more 2 1 6 (by decide) (by decide) 800000000 (fun bs len cap at_ a w h hat => Dv.says_1 bs len cap at_ a w h (by omega)) (by decide) (by decide) (by decide) (by decide) (by decide)
theorem Dv.says_3 : Dv.Says 3 13 106 700000000 := Dv.says_more 3 4 31 (by decide) (by decide) 700000000 (fun bs len cap at_ a w h hat => Dv.says_2 bs len cap at_ a w h (by omega)) (by decide) (by decide) (by decide) (by decide) (by decide)

end Go.Proofs.YtikeffckhklhbaaGreatDoor
