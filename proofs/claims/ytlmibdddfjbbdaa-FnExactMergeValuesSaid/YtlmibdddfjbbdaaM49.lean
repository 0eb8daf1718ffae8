/-
  spec.l14Merge of an object over another value (mk_mgs.py).
-/
import Derived.Test.YtlmibdddfjbbdaaM17
import Derived.Test.YtlmibdddfjbbdaaM28
import Derived.Test.YtlmibdddfjbbdaaM43
import Derived.Test.YtlmibdddfjbbdaaM47
namespace Go.Proofs.Ytlmibdddfjbbdaa
open Go.RowKit
set_option linter.unusedVariables false
set_option linter.unusedSimpArgs false
namespace Mg
set_option maxRecDepth 100000 in
set_option maxHeartbeats 8000000 in
theorem mergeS_not (f : Nat) (IH : Hid (MsSays f)) (A B : List M.Cl) (b off cap b' off' cap' : Nat) (w : World) (hv : M.valueFault A = 0) (hv' : M.valueFault B = 0) (hfl : B.length ≤ f + 1) (hrow : Row w b off A) (hb : b < w.heap.size) (hcap : A.length ≤ cap) (hrow' : Row w b' off' B) (hb' : b' < w.heap.size) (hcap' : B.length ≤ cap') (h6 : (B.getD 0 M.zero).kind = 6) (a6 : ¬ (A.getD 0 M.zero).kind = 6) :
    Calls Try.prog 17 #[.slice (some ⟨b, off, none⟩) A.length cap, .slice (some ⟨b', off', none⟩) B.length cap'] w fun e w' => ∃ s, e = .returned s ∧ Res w' w.heap.size s (merge (f + 1) A B) ∧ Below w.heap.size w w' := by
  obtain ⟨t0, ht0, hy0, hy1, hy2⟩ := info_parts Try.info9
  obtain ⟨i0, hi, hz0, hz1, hz2⟩ := info_parts Try.info24
  have hl := (M.fault_zero hv').1
  have hla := (M.fault_zero hv).1
  have f0 := (hrow' 0 (by omega)).1
  have g0_ := (hrow 0 (by omega)).1
  simp only [Nat.zero_mul, Nat.add_zero] at f0 g0_
  rw [h6] at f0
  have HFA : mergeO (merge f) emptyO B = merge (f + 1) A B := by rw [merge_o h6]; unfold objOf; rw [if_neg a6]
  have a6' : ((A.getD 0 M.zero).kind == 6) = false := by simpa using a6
  generalize (A.getD 0 M.zero).kind = kd0 at *
  clear hrow hcap hv
  have hv1 := empty_valid.1
  have HKE := hide empty_valid.2.2.2
  generalize emptyO = A1 at *
  have hal := (M.fault_zero hv1).2.1
  have hbl := (M.fault_zero hv').2.1
  have hnl := names_len A1 B hv1 hv'
  have HONE := hide (fun k (hk : k < (names A1 B).length) (he : memV B ((names A1 B).getD k ByteArray.empty) = []) => names_one hv1 hv' (getD_in hk) he)
  have HBARE := hide (show (∀ j, j < (laidK (fun k => pairM (merge f) (memV A1 k) (memV B k)) (names A1 B) (names A1 B).length).2.length → Bare ((laidK (fun k => pairM (merge f) (memV A1 k) (memV B k)) (names A1 B) (names A1 B).length).2.getD j [])) ∧ tot (laidK (fun k => pairM (merge f) (memV A1 k) (memV B k)) (names A1 B) (names A1 B).length).2 (laidK (fun k => pairM (merge f) (memV A1 k) (memV B k)) (names A1 B) (names A1 B).length).2.length ≤ 400 from by
    obtain ⟨h1, h2⟩ := laid_fit (merge_fit f) hv1 hv' hfl _ (Nat.le_refl _)
    exact ⟨fun j hj => (h1 j hj).1, by omega⟩)
  have HFIN : Hid (mergeO (merge f) A1 B = objV (laidK (fun k => pairM (merge f) (memV A1 k) (memV B k)) (names A1 B) (names A1 B).length).1 (laidK (fun k => pairM (merge f) (memV A1 k) (memV B k)) (names A1 B) (names A1 B).length).2) := hide rfl
  rw [HFA] at HFIN
  have HG0 := hide (fun (key : ByteArray) => (show (fun k => pairM (merge f) (memV A1 k) (memV B k)) key = pairM (merge f) (memV A1 key) (memV B key) from rfl))
  generalize (fun k => pairM (merge f) (memV A1 k) (memV B k)) = g0 at *
  generalize hNN : names A1 B = N at *
  have HNM := hide hNN
  clear hNN
  have HNE : Hid (Tr.onceB ([] ++ keysAt B 0) = N) := hide (by rw [← unhide HKE]; exact unhide HNM)
  go_enter Try.func17, Try.ntmps17
  obtain ⟨W1, hW1⟩ : ∃ W1, W1 = ((w.alloc (.cells #[] 9)).alloc (.cells #[] 24)).alloc (.cells #[] 9) := ⟨_, rfl⟩
  have x1 := (Below.refl w.heap.size w).alloc (Nat.le_refl _) (.cells #[] 9)
  have x2 := x1.alloc x1.size (.cells #[] 24)
  have b1 := x2.alloc x2.size (.cells #[] 9)
  rw [← hW1] at b1
  clear x1 x2
  have hs1 : w.heap.size + 3 ≤ W1.heap.size := by rw [hW1]; simp
  have K5 : KS W1 w.heap.size (.slice (some ⟨w.heap.size, 0, none⟩) 0 0) [] := by rw [hW1]; exact ((KS.emptyAt w w.heap.size _ rfl (Nat.le_refl _)).alloc _).alloc _
  have K6 : SS W1 w.heap.size (.slice (some ⟨w.heap.size + 1, 0, none⟩) 0 0) [] := by rw [hW1]; exact (SS.empty (w.alloc _) w.heap.size (w.heap.size + 1) (by simp) (by omega)).alloc _
  have hk7 : KS W1 (w.heap.size + 2) (.slice (some ⟨w.heap.size + 2, 0, none⟩) 0 0) [] := by rw [hW1]; exact KS.emptyAt ((w.alloc _).alloc _) (w.heap.size + 2) (w.heap.size + 2) (by simp) (Nat.le_refl _)
  have g1 := (b1.cell hb).trans g0_
  have hs1h := hide hs1
  have K5h := hide K5
  have K6h := hide K6
  clear K5 K6 g0_
  go_upto_region 6 with fail
  rw [← hW1]
  clear hW1 f0
  have HK7 := hide hk7
  have ht7 := (ks_of hk7).2.2
  have HB2 := hide (Below.refl W1.heap.size W1)
  have B2 := b1
  clear hk7
  have HKB := hide (l1Keys_any B b' off' cap' W1 hv' (hrow'.below B2 hb') (Nat.lt_of_lt_of_le hb' B2.size) hcap' (ok_val hv'))
  go_wp2_with fail
  refine (unhide HKB).mono ?_
  rintro e w3 ⟨s8, rfl, hk8, hb3⟩
  obtain ⟨a8, c8, rfl, hc8, ht8⟩ := hk8.tv
  have B3 : Below w.heap.size w w3 := B2.trans (hb3.mono B2.size)
  have HB3 := hide hb3
  have HK8 := hide hk8
  have HKK := hide (l14Keys_any (some ⟨w.heap.size + 2, 0, none⟩) a8 0 c8 [] (keysAt B 0) w3 (ht7.below hb3) ht8 List.Pairwise.nil (keys_rising hv' h6) (by simp) (by have := keys_count hv'; omega))
  clear HKB hb3 hk8 ht7 ht8
  rw [List.length_nil] at HKK
  go_wp2_with fail
  refine (unhide HKK).mono ?_
  rintro e w4 ⟨s9, rfl, hk9, hb4⟩
  rw [unhide HNE] at hk9
  obtain ⟨a9, c9, rfl, hc9, ht9⟩ := hk9.tv
  have B4 : Below w.heap.size w w4 := B3.trans (hb4.mono B3.size)
  have hs2 := (unhide HB2).size
  have hs3 := (unhide HB3).size
  have hs4 := hb4.size
  have n7 := ks_near (unhide HK7)
  have n8 := ks_near (unhide HK8)
  have n9 := ks_near hk9
  have LED0 := hide (show Led w w4 w4.heap.size (.slice (some ⟨w.heap.size, 0, none⟩) 0 0) (.slice (some ⟨w.heap.size + 1, 0, none⟩) 0 0) (.slice (some ⟨w.heap.size + 2, 0, none⟩) 0 0) (.slice a8 (keysAt B 0).length c8) (.slice a9 N.length c9) [] [] [] (keysAt B 0) N from
    ⟨B4, by omega, Nat.le_refl _, (((unhide K5h).below (unhide HB2)).below (unhide HB3)).below hb4, (((unhide K6h).below (unhide HB2)).below (unhide HB3)).below hb4, (((unhide HK7).below (unhide HB3)).below hb4).mono (by omega), ((unhide HK8).below hb4).mono (by have := B2.size; omega), hk9.mono (by have := B3.size; omega), fun g hg => .inl (by simp only [Value.ownBlock, Option.some.injEq] at hg; exact hg.symm), fun g hg => by have := n7 g hg; omega, fun g hg => by have := n8 g hg; omega, fun g hg => by have := n9 g hg; omega⟩)
  have hnn : N.length ≤ 400 := hnl
  clear HKK hk9 hb4 ht9 hs2 hs3 hs4 n7 n8 n9 HK7 HK8 HB2 HB3 K5h K6h hs1h hs1 b1 B2 B3
  go_wp2_with fail
  generalize hB2 : w4.heap.size = B2 at LED0
  clear hB2
  go_loopg [5, 6, 10] N.length (fun g s5 s6 s10 wr => ∃ (k : Nat), Hid (g = N.length - k) ∧ s10 = .int .i64 k ∧ k ≤ N.length ∧ Hid (Led w wr B2 s5 s6 (.slice (some ⟨w.heap.size + 2, 0, none⟩) 0 0) (.slice a8 (keysAt B 0).length c8) (.slice a9 N.length c9) (laidK g0 N k).1 (laidK g0 N k).2 [] (keysAt B 0) N))
  case atStart => exact ⟨0, rfl, rfl, by omega, unhide LED0⟩
  case round =>
    clear LED0 B4
    obtain ⟨k, hg, rfl, hk, hled⟩ := hrel
    obtain ⟨hKQ, hKk⟩ := laid_len g0 N k
    have hQk : (laidK g0 N k).2.length ≤ k := by omega
    have HKQ := hide hKQ
    clear hKQ
    obtain ⟨a5, c5, rfl, hc5, _⟩ := hled.out.keys.tv
    obtain ⟨a6_, c6_, rfl⟩ : ∃ a c, u6 = .slice a (laidK g0 N k).2.length c := by
      obtain ⟨ss, hss, hown6, hres6⟩ := hled.out.list
      rcases hown6.2 with ⟨h1, h2⟩ | ⟨g, c, cur, h1, _⟩
      · exact ⟨none, 0, by rw [h1, h2]⟩
      · exact ⟨_, _, h1⟩
    by_cases hlt : k < N.length
    · obtain ⟨g9, e9, hg9, hx9⟩ := (ks_of hled.out.all).2.2 k hlt
      subst e9
      clear hc5 hg9
      have hkI : (k : Int) < (N.length : Int) := by omega
      have hk0 : (0 : Int) ≤ (k : Int) := by omega
      have HXT := hide (fun W s5 s6 K Q (h : Led w W B2 s5 s6 (.slice (some ⟨w.heap.size + 2, 0, none⟩) 0 0) (.slice a8 (keysAt B 0).length c8) (.slice (some ⟨g9, 0, none⟩) N.length c9) K Q [] (keysAt B 0) N) => ks_cell h.all hlt)
      have HNO := hide (fun (h : g0 (N.getD k ByteArray.empty) = []) => (show (laidK g0 N (k + 1)).1 = (laidK g0 N k).1 ∧ (laidK g0 N (k + 1)).2 = (laidK g0 N k).2 from by rw [laid_no h]; exact ⟨rfl, rfl⟩))
      have HYES := hide (fun (h : g0 (N.getD k ByteArray.empty) ≠ []) => (show (laidK g0 N (k + 1)).1 = (laidK g0 N k).1 ++ [N.getD k ByteArray.empty] ∧ (laidK g0 N (k + 1)).2 = (laidK g0 N k).2 ++ [g0 (N.getD k ByteArray.empty)] from by rw [laid_yes h]; exact ⟨rfl, rfl⟩))
      have HG := hide ((unhide HG0) (N.getD k ByteArray.empty))
      have HIN := hide ((unhide HONE) k hlt)
      generalize N.getD k ByteArray.empty = y at *
      generalize (laidK g0 N k).1 = K at *
      generalize (laidK g0 N k).2 = Q at *
      have HTA := hide (l14Place_any (some ⟨w.heap.size + 2, 0, none⟩) 0 [] y wr (ks_of hled.out.mine).2.2 (by simp))
      rw [List.length_nil] at HTA
      have HTB := hide (l14Place_any a8 c8 (keysAt B 0) y wr (ks_of hled.out.yours).2.2 (by have := keys_count hv'; omega))
      have hPA := place_val hv1 y
      have hPB := place_val hv' y
      have hj : placeI [] y = -1 := place_none (fun j hj => by simp at hj)
      have hl0 : memV A1 y = [] := by
        rcases hPA with ⟨_, h⟩ | ⟨j, hj2, _⟩
        · exact h
        · exfalso; rw [subs_length, ← keysAt_length, unhide HKE] at hj2; simp at hj2
      obtain ⟨LZ, hLZ⟩ : ∃ LZ, LZ = [M.zero] := ⟨_, rfl⟩
      have hLZn : LZ ≠ [] := by rw [hLZ]; simp
      have HLZ := hide hLZ
      clear hLZ
      generalize memV A1 y = l at *
      generalize memV B y = r at *
      clear hPA
      rcases hPB with ⟨hk1, hr0⟩ | hPB
      · exact absurd hl0 ((unhide HIN) hr0)
      · obtain ⟨kk, hkkl, hk1, hmr, hrne, hrv, hrl⟩ := hPB
        have hrf : r.length ≤ f := by omega
        have hr1 := (M.fault_zero hrv).1
        clear HIN
        by_cases h0 : (r.getD 0 M.zero).kind = 0
        · rw [hj] at HTA
          rw [hk1] at HTB
          have hkkI : (kk : Int) < ((subs B 0).length : Int) := by omega
          have hkk0 : (0 : Int) ≤ (kk : Int) := by omega
          have hkkn : ¬ ((kk : Int) < 0) := by omega
          have HN := hide ((unhide HNO) (by rw [unhide HG]; exact pair_0 hrne h0))
          clear HNO HYES HG hj hk1
          go_wp2_with fail
          refine (unhide HTA).mono ?_
          rintro e wa ⟨rfl, hwa⟩
          have hwa' := hwa.symm
          clear hwa
          subst hwa'
          clear HTA
          go_wp2_with fail
          refine (unhide HTB).mono ?_
          rintro e wa ⟨rfl, hwa⟩
          have hwa' := hwa.symm
          clear hwa
          subst hwa'
          clear HTB
          go_wp2_with fail
          refine (l3Null_any wr).mono ?_
          rintro e w5 ⟨s13, rfl, hz13, hb5⟩
          have led5 := hide (hled.out.below hb5)
          have hx5 := (unhide HXT) _ _ _ _ _ (unhide led5)
          have hz13 : Res w5 w.heap.size s13 LZ := by rw [unhide HLZ]; exact hz13.mono hled.out.bel.size
          obtain ⟨zb, zc, rfl, hzc, hzb, hzr⟩ := (show NR w5 w.heap.size s13 LZ from .inr ⟨hLZn, hz13⟩).mem hLZn
          clear hled hb5 hx9 hzr hzb hzc
          have HW := hide hz13
          clear hz13
          have HPB := hide (l1Parts_any B b' off' cap' w5 hv' (hrow'.below (unhide led5).bel hb') (Nat.lt_of_lt_of_le hb' (unhide led5).bel.size) hcap' (ok_val hv'))
          go_wp2_with fail
          refine (unhide HPB).mono ?_
          rintro e w8 ⟨sB, rfl, hsB, hb8⟩
          obtain ⟨gB, cB, xv, rfl, hcBB, hxB, hrB⟩ := hsB.at (i := kk) hkkl
          rw [hmr] at hrB
          have led8 := hide ((unhide led5).below hb8)
          have hx8 := (unhide HXT) _ _ _ _ _ (unhide led8)
          obtain ⟨xb, xc, rfl, hxc, hxb, hxr⟩ := (show NR w8 _ xv r from .inr ⟨hrne, hrB⟩).mem hrne
          have HX := hide (hrB.mono (unhide led5).bel.size)
          have HW8 := hide ((unhide HW).below hb8)
          have f8 := (hxr 0 (by omega)).1
          simp only [Nat.zero_mul, Nat.add_zero] at f8
          clear hsB hb8 hrB hcBB hxr HW HPB hx5
          rw [h0] at f8
          clear HX HW8
          go_wp2_with fail
          go_roundg (N.length - (k + 1))
          case rel => exact ⟨k + 1, rfl, by go_num, by omega, by rw [(unhide HN).1, (unhide HN).2]; exact unhide led8⟩
          case measure => have := hg.out; omega
        · rw [hj] at HTA
          rw [hk1] at HTB
          have hkkI : (kk : Int) < ((subs B 0).length : Int) := by omega
          have hkk0 : (0 : Int) ≤ (kk : Int) := by omega
          have hkkn : ¬ ((kk : Int) < 0) := by omega
          have hgy : g0 y = merge f [M.zero] r := by rw [unhide HG]; exact pair_r hrne h0 hl0
          have hgne : g0 y ≠ [] := by rw [hgy]; have h := (merge_fit f [M.zero] r zero_valid.1 hrv hrf).bare.1; intro e; rw [e] at h; simp at h
          have HN := hide ((unhide HYES) hgne)
          have h0' : ((r.getD 0 M.zero).kind == 0) = false := by simpa using h0
          rw [← unhide HLZ] at hgy
          clear HNO HYES HG hj hk1
          go_wp2_with fail
          refine (unhide HTA).mono ?_
          rintro e wa ⟨rfl, hwa⟩
          have hwa' := hwa.symm
          clear hwa
          subst hwa'
          clear HTA
          go_wp2_with fail
          refine (unhide HTB).mono ?_
          rintro e wa ⟨rfl, hwa⟩
          have hwa' := hwa.symm
          clear hwa
          subst hwa'
          clear HTB
          go_wp2_with fail
          refine (l3Null_any wr).mono ?_
          rintro e w5 ⟨s13, rfl, hz13, hb5⟩
          have led5 := hide (hled.out.below hb5)
          have hx5 := (unhide HXT) _ _ _ _ _ (unhide led5)
          have hz13 : Res w5 w.heap.size s13 LZ := by rw [unhide HLZ]; exact hz13.mono hled.out.bel.size
          obtain ⟨zb, zc, rfl, hzc, hzb, hzr⟩ := (show NR w5 w.heap.size s13 LZ from .inr ⟨hLZn, hz13⟩).mem hLZn
          clear hled hb5 hx9 hzr hzb hzc
          have HW := hide hz13
          clear hz13
          have HPB := hide (l1Parts_any B b' off' cap' w5 hv' (hrow'.below (unhide led5).bel hb') (Nat.lt_of_lt_of_le hb' (unhide led5).bel.size) hcap' (ok_val hv'))
          go_wp2_with fail
          refine (unhide HPB).mono ?_
          rintro e w8 ⟨sB, rfl, hsB, hb8⟩
          obtain ⟨gB, cB, xv, rfl, hcBB, hxB, hrB⟩ := hsB.at (i := kk) hkkl
          rw [hmr] at hrB
          have led8 := hide ((unhide led5).below hb8)
          have hx8 := (unhide HXT) _ _ _ _ _ (unhide led8)
          obtain ⟨xb, xc, rfl, hxc, hxb, hxr⟩ := (show NR w8 _ xv r from .inr ⟨hrne, hrB⟩).mem hrne
          have HX := hide (hrB.mono (unhide led5).bel.size)
          have HW8 := hide ((unhide HW).below hb8)
          have f8 := (hxr 0 (by omega)).1
          simp only [Nat.zero_mul, Nat.add_zero] at f8
          clear hsB hb8 hrB hcBB hxr HW HPB hx5
          generalize (r.getD 0 M.zero).kind = kd at *
          have hkown := hide (fun o => (ownsRow_below (B := 0) (unhide led8).keys ((Below.refl w8.heap.size w8).alloc (Nat.le_refl _) o)))
          have hone := hide (many_val w8 9 [.string y])
          have honep := hide (show ∀ u ∈ ([Value.string y] : List Value), u.oneCell' = true by intro u hu; rw [List.mem_singleton.1 hu]; rfl)
          have hb63 : K.length + 1 ≤ maxLen := by unfold maxLen; omega
          have hby : (K.length + 1) * 16 ≤ 140737488355328 := by omega
          have hbase : w.heap.size ≤ w8.heap.size + 1 := by have := (unhide led8).bel.size; omega
          go_wp2_with (at_builtin; refine wpList_append_where rfl (.tmp 87) (.tmp 92) 48 rfl w.heap.size 9 t0 (.string ByteArray.empty) 1 16 Try.underlying48 ht0 hy0 hy1 hy2 rfl (by decide) _ K.length _ rfl ((unhide hkown) _) ⟨w8.heap.size, 0, none⟩ 1 1 [.string y] rfl rfl (unhide hone) (unhide honep) hb63 hby (by simpa using hbase) ?_)
          intro v7 w9 ho7 hg7 hw7
          have led9 := hide ((unhide led8).pushK ho7 hg7 hw7)
          have KEEP9 := hide (fun s l (h : Res w8 w.heap.size s l) => (unhide led8).keepK hg7 h)
          obtain ⟨ka7, kn7, kc7, rfl⟩ : ∃ a n c, v7 = .slice a n c := by
            rcases ho7.2 with ⟨h1, _⟩ | ⟨g, c, cur, h1, _⟩
            · exact ⟨_, _, _, h1⟩
            · exact ⟨_, _, _, h1⟩
          clear ho7 hg7 hw7 hkown hone honep hb63 hby hbase
          obtain ⟨_, q1, q2, q3⟩ := res_row ((unhide KEEP9) _ _ (unhide HW8)) hLZn
          obtain ⟨_, q4, q5, q6⟩ := res_row ((unhide KEEP9) _ _ (unhide HX)) hrne
          have HMG := hide ((unhide IH) LZ r zb 0 zc xb 0 xc w9 (by rw [unhide HLZ]; exact zero_valid.1) hrv hrf q3 q2 q1 q6 q5 q4)
          rw [← hgy] at HMG
          clear q1 q2 q3 q4 q5 q6 KEEP9 HW8 HX hx8 hgy
          go_wp2_with fail
          refine (unhide HMG).mono ?_
          rintro e w10 ⟨s10, rfl, hr10, hb10⟩
          have led10 := hide ((unhide led9).below hb10)
          obtain ⟨yb, yc, rfl, _, _, _⟩ := (show NR w10 _ s10 (g0 y) from .inr ⟨hgne, hr10⟩).mem hgne
          have HY := hide (hr10.mono (unhide led9).bel.size)
          clear hr10 hb10 HMG
          obtain ⟨ss, hss, hown6, hres6⟩ := (unhide led10).list
          have hlown := hide (fun o => hown6.alloc o)
          have HSS := hide hss
          have HOW6 := hide hown6
          have HRE6 := hide hres6
          have hone := hide (many_val w10 24 [.slice (some ⟨yb, 0, none⟩) (g0 y).length yc])
          have honep := hide (show ∀ u ∈ ([Value.slice (some ⟨yb, 0, none⟩) (g0 y).length yc] : List Value), u.oneCell' = true by intro u hu; rw [List.mem_singleton.1 hu]; rfl)
          have hb63 : Q.length + 1 ≤ maxLen := by unfold maxLen; omega
          have hby : (Q.length + 1) * 24 ≤ 140737488355328 := by omega
          have hbase : w.heap.size ≤ w10.heap.size + 1 := by have := (unhide led10).bel.size; omega
          clear hss hown6 hres6
          go_wp2_with (at_builtin; refine wpList_append_own _ rfl (.tmp 94) (.tmp 98) 44 rfl w.heap.size 24 i0 (.slice none 0 0) 1 24 Try.underlying44 hi hz0 hz1 hz2 rfl (by decide) _ Q.length _ rfl ((unhide hlown) _) ⟨w10.heap.size, 0, none⟩ 1 1 [.slice (some ⟨yb, 0, none⟩) (g0 y).length yc] rfl rfl (unhide hone) (unhide honep) hb63 hby (by simpa using hbase) ?_)
          intro v8 w11 ho8 hg8 _
          have led11 := hide ((unhide led10).pushL (unhide HSS) (unhide HOW6) (unhide HRE6) (unhide HY) ho8 hg8)
          clear ho8 hg8 hlown hone honep HSS HOW6 HRE6 hb63 hby hbase
          go_wp2_with fail
          go_roundg (N.length - (k + 1))
          case rel => exact ⟨k + 1, rfl, by go_num, by omega, by rw [(unhide HN).1, (unhide HN).2]; exact unhide led11⟩
          case measure => have := hg.out; omega
    · have hke : k = N.length := by omega
      subst hke
      have HBAR := unhide HBARE
      have hls := hled.out.list
      have hbel := hled.out.bel
      have htv := (ks_of hled.out.keys).2.2
      generalize (laidK g0 N N.length).1 = KK at *
      generalize (laidK g0 N N.length).2 = QQ at *
      obtain ⟨sa2, sc2, es, hsc, hlv⟩ := hls.lv (fun i hi e => by have := (HBAR.1 i hi).1; rw [e] at this; simp at this)
      simp only [Value.slice.injEq] at es
      obtain ⟨rfl, em2, rfl⟩ := es
      have HLO := l1ObjectB_any a5 a6_ c5 c6_ KK QQ wr htv hlv hc5 hsc (unhide HKQ) (by omega) (fun j hj => (HBAR.1 j hj).1) (by have := HBAR.2; omega)
      rw [← unhide HFIN] at HLO
      have HLO2 := hide HLO
      clear HLO hls htv hlv HBAR HBARE hsc em2 hled hc5 HKQ hKk hQk
      go_wp2_with fail
      refine (unhide HLO2).mono ?_
      rintro e w9 ⟨s9, rfl, hr9, hb9⟩
      have FIN := hide (hr9.mono hbel.size)
      have B9 : Below w.heap.size w w9 := hbel.trans (hb9.mono hbel.size)
      obtain ⟨xa, xn, xc, rfl⟩ := hr9.shape
      clear hr9 hb9 HLO2
      go_wp2_with fail
      go_ret
      exact ⟨_, rfl, unhide FIN, B9⟩
end Mg
end Go.Proofs.Ytlmibdddfjbbdaa
