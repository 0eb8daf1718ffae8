/-
  impl.memberOf, impl.memberPairs.
-/
import Derived.Test.YtlmibdddfjbbdaaM27
import Derived.Test.YtlmibdddfjbbdaaM31
import Derived.Test.YtlmibdddfjbbdaaM32
import Derived.Test.YtlmibdddfjbbdaaM33
namespace Go.Proofs.Ytlmibdddfjbbdaa
open Go.RowKit
set_option linter.unusedVariables false
set_option linter.unusedSimpArgs false
theorem Try.info59 : (Try.prog.info? 59).map (fun i => (i.zero, i.size, i.bytes)) = some (some (.agg #[.int .i64 0, .int .i64 0, .string ByteArray.empty, .string ByteArray.empty, .int .i64 0, .slice none 0 0, .slice none 0 0]), 7, 104) := by kernel_rfl
namespace Mg
/-- A slice of a value's cells; nil, if there are none. -/
def NR (w : World) (B : Nat) (s : Value) (l : List M.Cl) : Prop := (l = [] ∧ s = .slice none 0 0) ∨ (l ≠ [] ∧ Res w B s l)
theorem NR.nil (w : World) (B : Nat) : NR w B (.slice none 0 0) [] := .inl ⟨rfl, rfl⟩
theorem NR.below {w w' : World} {B : Nat} {s : Value} {l : List M.Cl} (h : NR w B s l) (hb : Below w.heap.size w w') : NR w' B s l := by
  rcases h with h | ⟨h1, h2⟩
  · exact .inl h
  · exact .inr ⟨h1, h2.below hb⟩
theorem NR.mono {w : World} {B B' : Nat} {s : Value} {l : List M.Cl} (h : NR w B s l) (hb : B' ≤ B) : NR w B' s l := by
  rcases h with h | ⟨h1, h2⟩
  · exact .inl h
  · exact .inr ⟨h1, h2.mono hb⟩
theorem NR.shape {w : World} {B : Nat} {s : Value} {l : List M.Cl} (h : NR w B s l) : ∃ a n c, s = .slice a n c := by
  rcases h with ⟨_, h⟩ | ⟨_, h⟩
  · exact ⟨_, _, _, h⟩
  · exact h.shape
set_option maxRecDepth 100000 in
set_option maxHeartbeats 2000000 in
theorem memberOf_any (v : List M.Cl) (b off cap : Nat) (key : ByteArray) (w : World) (hv : M.valueFault v = 0) (hrow : Row w b off v) (hb : b < w.heap.size) (hcap : v.length ≤ cap) :
    Calls Try.prog 48 #[.slice (some ⟨b, off, none⟩) v.length cap, .string key] w fun e w' => ∃ s, e = .returned s ∧ NR w' w.heap.size s (memV v key) ∧ Below w.heap.size w w' := by
  have hl1 := (M.fault_zero hv).1
  have hl2 := (M.fault_zero hv).2.1
  have hin := M.places_in hv 0 (by omega)
  have HIN := hide hin.1
  have hend := hide hin.2.2.1
  have hA := hin.2.2.2
  have HC := hide (fun w' (r : Row w' b off v) hb' => childPlaces_any v b off cap 0 w' hv (by omega) r hb' hcap)
  have HP := hide (fun a w' (ha : a < v.length) (r : Row w' b off v) hb' => partOf_any v b off cap a w' hv ha r hb' hcap)
  have HIT := hide (fun k hk h hh => memV_hit (v := v) (key := key) (k := k) hk h hh)
  have NON := hide (fun h => memV_none (v := v) (key := key) h)
  have HPL := hide (fun k (hk : k < M.arity v 0) => (part_lt hv hk).2.2.2)
  clear hin
  generalize hm : M.arity v 0 = m at *
  clear hm hv
  go_enter Try.func48, Try.ntmps48
  go_wp2_with fail
  refine ((unhide HC) _ hrow hb).mono ?_
  rintro e w1 ⟨sa, rfl, hra, hb1⟩
  have B1 : Below w.heap.size w w1 := hb1
  clear hb1 HC
  obtain ⟨_, ⟨rfl, hnil⟩ | ⟨ba, ca, rfl, _, hca, hoa⟩⟩ := hra
  · have hm0 : m = 0 := by have := congrArg List.length hnil; rwa [firstPl_length] at this
    subst hm0
    have fin := hide (show NR w1 w.heap.size (.slice none 0 0) (memV v key) by rw [(unhide NON) (fun j hj => absurd hj (by omega))]; exact NR.nil _ _)
    clear HIT NON hnil
    go_wp2_with fail
    refine wp_loop_rounds 1 ?_
    rw [rounds_succ]
    go_wp2_with fail
    go_ret
    exact ⟨_, rfl, unhide fin, B1⟩
  · rw [firstPl_length] at hca ⊢
    go_wp2_with fail
    go_loopg [10] m (fun g s10 wr => ∃ k : Nat, Hid (g = m - k) ∧ s10 = .int .i64 k ∧ k ≤ m ∧ Hid (∀ j, j < k → ((keyAt v j).toList == key.toList) = false) ∧ OwnI wr ba (firstPl v 0 m) ∧ Below w.heap.size w wr)
    case atStart => exact ⟨0, rfl, rfl, by omega, fun j hj => absurd hj (by omega), hoa, B1⟩
    case round =>
      clear hoa B1
      obtain ⟨k, hg, rfl, hk, hall, hoi, hbel⟩ := hrel
      by_cases hlt : k < m
      · have h1 := (unhide HIN) k hlt
        have h2 := unhide hend
        have fa := hoi.cell (i := k) (by rw [firstPl_length]; exact hlt)
        rw [firstPl_getD v 0 m k hlt] at fa
        have fk := ((hrow.below hbel hb) (M.iter v k (0 + 1)) (by omega)).2.2.2.1
        simp only [Nat.zero_add] at fa fk h1
        have hp : M.iter v k 1 < v.length := by omega
        have HITK := hide (fun hh => (unhide HIT) k hlt hall.out hh)
        have HPK := hide (show 1 ≤ (part v (M.iter v k 1)).length from (unhide HPL) k hlt)
        have NEXT := hide (fun (hh : ((keyAt v k).toList == key.toList) = false) j (hj : j < k + 1) => show ((keyAt v j).toList == key.toList) = false by
          by_cases e : j = k
          · subst e; exact hh
          · exact hall.out j (by omega))
        have HPT := hide ((unhide HP) (M.iter v k 1) wr hp (hrow.below hbel hb) (Nat.lt_of_lt_of_le hb hbel.size))
        have hky : (v.getD (M.iter v k 1) M.zero).key = keyAt v k := rfl
        rw [hky] at fk
        have hkI : (k : Int) < (m : Int) := by omega
        have hk0 : (0 : Int) ≤ (k : Int) := by omega
        clear h1 h2 hky HIT NON HPL
        generalize keyAt v k = ky at *
        generalize hpp : part v (M.iter v k 1) = pt at *
        clear hpp
        generalize M.iter v k 1 = p at *
        cases hq : (ky.toList == key.toList) with
        | true =>
          have fin := hide ((unhide HITK) hq)
          clear HITK NEXT hall
          go_wp2_with fail
          refine (unhide HPT).mono ?_
          rintro e w2 ⟨s, rfl, hr, hb2⟩
          have B2 : Below w.heap.size w w2 := hbel.trans (hb2.mono hbel.size)
          have FIN := hide (show NR w2 w.heap.size s (memV v key) by
            rw [unhide fin]
            exact .inr ⟨by intro e; have := unhide HPK; rw [e] at this; simp at this, hr.mono hbel.size⟩)
          obtain ⟨xa, xn, xc, rfl⟩ := hr.shape
          clear hr hb2 fin HPT fa fk
          go_wp2_with fail
          go_ret
          exact ⟨_, rfl, unhide FIN, B2⟩
        | false =>
          have HN := hide ((unhide NEXT) hq)
          clear HITK NEXT hall HPT
          go_wp2_with fail
          go_roundg (m - (k + 1))
          case rel => exact ⟨k + 1, rfl, by go_num, by omega, unhide HN, hoi, hbel⟩
          case measure => have := hg.out; omega
      · have hke : k = m := by omega
        have fin := hide (show NR wr w.heap.size (.slice none 0 0) (memV v key) by rw [(unhide NON) (fun j hj => hall.out j (by omega))]; exact NR.nil _ _)
        clear hall HIT NON hke
        go_wp2_with fail
        go_ret
        exact ⟨_, rfl, unhide fin, hbel⟩
set_option maxHeartbeats 1000000 in
theorem keyStep_any (s : ByteArray) (w : World) : Calls Try.prog 47 #[.string s] w fun e w' => e = .returned (.agg #[.int .i64 4, .int .i64 0, .string s, .string { data := #[] }, .int .i64 0]) ∧ Below w.heap.size w w' := by
  go_enter Try.func47, Try.ntmps47
  go_wp2_with fail
  refine bodyPost_ret (v := .agg #[.int .i64 4, .int .i64 0, .string s, .string { data := #[] }, .int .i64 0]) (by simp [results, Try.results47, go_sem]) rfl ⟨rfl, (Below.refl _ _).alloc (Nat.le_refl _) _⟩
/-- The words of the first n pairs. -/
def pc (ks : List ByteArray) (Ls Rs : Nat → Value) : Nat → List Value
  | 0 => []
  | n + 1 => pc ks Ls Rs n ++ [.int .i64 4, .int .i64 0, .string (ks.getD n ByteArray.empty), .string { data := #[] }, .int .i64 0, Ls n, Rs n]
theorem pc_len (ks : List ByteArray) (Ls Rs : Nat → Value) : ∀ n, (pc ks Ls Rs n).length = n * 7
  | 0 => rfl
  | n + 1 => by rw [pc, List.length_append, pc_len ks Ls Rs n]; simp; omega
theorem pc_congr (ks : List ByteArray) {Ls Rs Ls' Rs' : Nat → Value} : ∀ n, (∀ i, i < n → Ls i = Ls' i ∧ Rs i = Rs' i) → pc ks Ls Rs n = pc ks Ls' Rs' n
  | 0, _ => rfl
  | n + 1, h => by
    rw [pc, pc, pc_congr ks n (fun i hi => h i (by omega)), (h n (by omega)).1, (h n (by omega)).2]
theorem pc_at (ks : List ByteArray) (Ls Rs : Nat → Value) (n i j : Nat) (hi : i < n) (hj : j < 7) : (pc ks Ls Rs n)[i * 7 + j]? = ([.int .i64 4, .int .i64 0, .string (ks.getD i ByteArray.empty), .string { data := #[] }, .int .i64 0, Ls i, Rs i] : List Value)[j]? := by
  induction n with
  | zero => omega
  | succ n ih =>
    rw [pc]
    by_cases e : i = n
    · subst e
      rw [List.getElem?_append_right (by rw [pc_len]; omega), pc_len, show i * 7 + j - i * 7 = j by omega]
    · rw [List.getElem?_append_left (by rw [pc_len]; omega)]
      exact ih (by omega)
/-- The pairs of two objects' members. -/
def PP (w : World) (B : Nat) (s : Value) (ks : List ByteArray) (a b : List M.Cl) : Prop :=
  ∃ Ls Rs : Nat → Value, w.ownsRow B 59 7 s ks.length (pc ks Ls Rs ks.length) ∧ ∀ i, i < ks.length → NR w B (Ls i) (memV a (ks.getD i ByteArray.empty)) ∧ NR w B (Rs i) (memV b (ks.getD i ByteArray.empty))
theorem many_val (w : World) (t : TypeId) (xs : List Value) : ∀ j u, xs[j]? = some u → (w.alloc (.cells xs.toArray t)).cell? ((⟨w.heap.size, 0, none⟩ : Addr).add j) = some u := by
  intro j u hu
  have h1 : Own (w.alloc (.cells xs.toArray t)) w.heap.size t xs := ⟨_, heap_alloc_new _ _, by simp⟩
  have e : ((⟨w.heap.size, 0, none⟩ : Addr).add j) = ⟨w.heap.size, j, none⟩ := by
    unfold Addr.add
    split
    · rename_i h; subst h; rfl
    · simp
  rw [e]
  exact (h1.cell j).trans hu
theorem pair_grown {w w' : World} {B B' n : Nat} {v s : Value} {xs : List Value} {l : List M.Cl} (h : w.ownsRow B 59 7 v n xs) (hg : w.grownBy w' v.ownBlock) (hr : NR w B' s l) : NR w' B' s l := by
  rcases hr with hr | ⟨h1, h2⟩
  · exact .inl hr
  · exact .inr ⟨h1, grown_res h hg h2 (by decide)⟩
theorem owns_lower {w : World} {base base' : Nat} {e : TypeId} {size : Nat} {v : Value} {n : Nat} {xs : List Value} (h : w.ownsRow base e size v n xs) (hb : base' ≤ base) : w.ownsRow base' e size v n xs := by
  obtain ⟨h1, ⟨h2, h3⟩ | ⟨g, cap, cur, h2, hg, hr⟩⟩ := h
  · exact ⟨h1, .inl ⟨h2, h3⟩⟩
  · exact ⟨h1, .inr ⟨g, cap, cur, h2, by omega, hr⟩⟩
set_option maxRecDepth 100000 in
set_option maxHeartbeats 4000000 in
theorem memberPairs_any (A B : List M.Cl) (b off cap b' off' cap' : Nat) (w : World) (hv : M.valueFault A = 0) (hrow : Row w b off A) (hb : b < w.heap.size) (hcap : A.length ≤ cap) (hv' : M.valueFault B = 0) (hrow' : Row w b' off' B) (hb' : b' < w.heap.size) (hcap' : B.length ≤ cap') :
    Calls Try.prog 35 #[.slice (some ⟨b, off, none⟩) A.length cap, .slice (some ⟨b', off', none⟩) B.length cap'] w fun e w' => ∃ s, e = .returned s ∧ PP w' w.heap.size s (names A B) A B ∧ Below w.heap.size w w' := by
  have HK1 := hide (keysIn_any A b off cap w hv hrow hb hcap)
  have HK2 := hide (fun W (h : Below w.heap.size w W) => keysIn_any B b' off' cap' W hv' (hrow'.below h hb') (Nat.lt_of_lt_of_le hb' h.size) hcap')
  have HM1 := hide (fun key W (h : Below w.heap.size w W) => memberOf_any A b off cap key W hv (hrow.below h hb) (Nat.lt_of_lt_of_le hb h.size) hcap)
  have HM2 := hide (fun key W (h : Below w.heap.size w W) => memberOf_any B b' off' cap' key W hv' (hrow'.below h hb') (Nat.lt_of_lt_of_le hb' h.size) hcap')
  have hc1 := keys_count hv
  have hc2 := keys_count hv'
  have hl1 := (M.fault_zero hv).2.1
  have hl2 := (M.fault_zero hv').2.1
  have hnl := names_len A B hv hv'
  have HNA := hide (show names A B = Tr.onceB (keysAt A 0 ++ keysAt B 0) from rfl)
  have hkone := hide (texts_plain (keysAt B 0))
  clear hv hrow hb hv' hrow' hb'
  obtain ⟨t0, ht0, hy0, hy1, hy2⟩ := info_parts Try.info9
  obtain ⟨p0, hp0, hq0, hq1, hq2⟩ := info_parts Try.info59
  generalize keysAt A 0 = ka at *
  generalize keysAt B 0 = kb at *
  generalize names A B = N at *
  go_enter Try.func35, Try.ntmps35
  go_wp2_with fail
  refine (unhide HK1).mono ?_
  rintro e w1 ⟨sk1, rfl, hk1, hb1⟩
  obtain ⟨ka1, kc1, hsk1, _, _⟩ := hk1.tv
  subst hsk1
  clear HK1
  go_wp2_with fail
  refine ((unhide HK2) w1 hb1).mono ?_
  rintro e w2 ⟨sk2, rfl, hk2, hb2⟩
  have B2 : Below w.heap.size w w2 := hb1.trans (hb2.mono hb1.size)
  have hsz1 := hb1.size
  have hkq1 := hk1.below hb2
  obtain ⟨ka2, kc2, hsk2, _, _⟩ := hk2.tv
  subst hsk2
  have HA1 := hide hkq1
  have HA2 := hide hk2
  have hkbse := hide (ownsRow_base hkq1)
  have hk63 : ka.length + kb.length ≤ maxLen := by unfold maxLen; omega
  have hkby : (ka.length + kb.length) * 16 ≤ 140737488355328 := by omega
  have hszw : w.heap.size ≤ w2.heap.size := B2.size
  clear hk1 hk2 hkq1 HK2 hb1 hb2
  go_wp2_with (at_builtin; refine wpList_append_row rfl (.tmp 9) (.tmp 11) 48 rfl w.heap.size 9 t0 (.string ByteArray.empty) 16 Try.underlying48 ht0 hy0 hy1 hy2 rfl _ ka.length _ rfl (unhide HA1) w1.heap.size 9 _ kb.length _ rfl (unhide HA2) (unhide hkone) hk63 hkby (by omega) ?_)
  intro vk wk hok hgk
  have hKJ := KS.join hok
  obtain ⟨KK, hKK⟩ : ∃ KK, KK = ka ++ kb := ⟨_, rfl⟩
  have hKL : KK.length ≤ 1048576 := by rw [hKK, List.length_append]; omega
  rw [← hKK] at hKJ HNA
  clear hKK
  have BK : Below w.heap.size w wk := B2.grown hgk (by omega) (unhide hkbse)
  obtain ⟨kaJ, kcJ, hkJ, _, _⟩ := hKJ.tv
  subst hkJ
  have HSO := hide (sortedOnce_any _ KK w.heap.size wk hKJ BK.size hKL)
  clear hok hgk HA1 HA2 hkone hkbse hKJ
  go_wp2_with fail
  refine (unhide HSO).mono ?_
  rintro e ws ⟨na, nn, nc, rfl, hnr, hbs⟩
  have BS : Below w.heap.size w ws := BK.trans hbs
  rw [← unhide HNA] at hnr
  obtain ⟨na', nc', hns, _, htv⟩ := (show KS ws w.heap.size (.slice na nn nc) N from hnr).tv
  simp only [Value.slice.injEq] at hns
  obtain ⟨rfl, rfl, rfl⟩ := hns
  have HTV := hide htv
  have hO := hide (show ws.ownsRow ws.heap.size 59 7 (.slice none 0 0) 0 [] from World.ownsRow_nil _ _ _ _)
  clear HSO hnr hbs BK htv B2
  go_wp2_with fail
  go_loopg [5, 15] N.length (fun g s5 s15 wr => ∃ (k : Nat) (Ls Rs : Nat → Value), Hid (g = N.length - k) ∧ s15 = .int .i64 k ∧ k ≤ N.length ∧ Hid (wr.ownsRow ws.heap.size 59 7 s5 k (pc N Ls Rs k)) ∧ Hid (∀ i, i < k → NR wr ws.heap.size (Ls i) (memV A (N.getD i ByteArray.empty)) ∧ NR wr ws.heap.size (Rs i) (memV B (N.getD i ByteArray.empty))) ∧ Below ws.heap.size ws wr)
  case atStart => exact ⟨0, fun _ => .slice none 0 0, fun _ => .slice none 0 0, rfl, rfl, by omega, unhide hO, fun i hi => absurd hi (by omega), Below.refl _ _⟩
  case round =>
    clear hO
    obtain ⟨k, Ls, Rs, hg, rfl, hk, hown, hnr, hbel⟩ := hrel
    have BW : Below w.heap.size w wr := BS.trans (hbel.mono BS.size)
    obtain ⟨oa, oc, rfl⟩ : ∃ oa oc, u5 = .slice oa k oc := by
      rcases hown.out.2 with ⟨h1, h2⟩ | ⟨g, c, cur, h1, _⟩
      · exact ⟨none, 0, by rw [h1, h2]⟩
      · exact ⟨_, _, h1⟩
    by_cases hlt : k < N.length
    · obtain ⟨gn, rfl, hgn, fn⟩ := ((unhide HTV).below hbel) k hlt
      have hkI : (k : Int) < (N.length : Int) := by omega
      have hk0 : (0 : Int) ≤ (k : Int) := by omega
      have HPC := hide (fun Ls Rs => (show pc N Ls Rs (k + 1) = pc N Ls Rs k ++ [.int .i64 4, .int .i64 0, .string (N.getD k ByteArray.empty), .string { data := #[] }, .int .i64 0, Ls k, Rs k] from rfl))
      have HYK := hide (show N.getD k ByteArray.empty = N.getD k ByteArray.empty from rfl)
      generalize hy : N.getD k ByteArray.empty = y at fn HPC
      have HKS := hide (keyStep_any y wr)
      go_wp2_with fail
      refine (unhide HKS).mono ?_
      rintro e w3 ⟨rfl, hb3⟩
      have B3 : Below w.heap.size w w3 := BW.trans (hb3.mono BW.size)
      have hs3 := hb3.size
      have HMA := hide ((unhide HM1) y w3 B3)
      clear HKS fn
      go_wp2_with fail
      refine (unhide HMA).mono ?_
      rintro e w4 ⟨L, rfl, hL, hb4⟩
      have B4 : Below w.heap.size w w4 := B3.trans (hb4.mono B3.size)
      obtain ⟨la, ln, lc, rfl⟩ := hL.shape
      have hs4 := hb4.size
      have HMB := hide ((unhide HM2) y w4 B4)
      clear HMA
      go_wp2_with fail
      refine (unhide HMB).mono ?_
      rintro e w5 ⟨R, rfl, hR, hb5⟩
      have B5 : Below w.heap.size w w5 := B4.trans (hb5.mono B4.size)
      obtain ⟨ra, rn, rc, rfl⟩ := hR.shape
      have hs5 := hb5.size
      have b5 : Below ws.heap.size ws w5 := hbel.trans (((hb3.trans (hb4.mono hs3)).trans (hb5.mono (Nat.le_trans hs3 hs4))).mono hbel.size)
      have bwr : Below wr.heap.size wr w5 := (hb3.trans (hb4.mono hs3)).trans (hb5.mono (Nat.le_trans hs3 hs4))
      have hown5 := ownsRow_below (B := 0) hown.out bwr
      have hL5 : NR w5 ws.heap.size (.slice la ln lc) (memV A y) := (hL.below hb5).mono (by have := hbel.size; omega)
      have hR5 : NR w5 ws.heap.size (.slice ra rn rc) (memV B y) := hR.mono (by have := hbel.size; omega)
      have HO1 := hide (fun o => hown5.alloc o)
      have hbse := hide (ownsRow_base hown5)
      have HNR := hide (fun i hi => And.intro ((hnr.out i hi).1.below bwr) ((hnr.out i hi).2.below bwr))
      have HL5 := hide hL5
      have HR5 := hide hR5
      have hone := hide (many_val w5 59 [.int .i64 4, .int .i64 0, .string y, .string { data := #[] }, .int .i64 0, .slice la ln lc, .slice ra rn rc])
      have honep := hide (show ∀ u ∈ ([.int .i64 4, .int .i64 0, .string y, .string { data := #[] }, .int .i64 0, .slice la ln lc, .slice ra rn rc] : List Value), u.oneCell' = true by intro u hu; simp only [List.mem_cons, List.not_mem_nil, or_false] at hu; rcases hu with rfl | rfl | rfl | rfl | rfl | rfl | rfl <;> rfl)
      have hb63 : k + 1 ≤ maxLen := by unfold maxLen; omega
      have hby : (k + 1) * 104 ≤ 140737488355328 := by omega
      have hbase : ws.heap.size ≤ w5.heap.size + 1 := by have := b5.size; omega
      clear hown hnr hown5 hL hR hL5 hR5 HMB hb3 hb4 hb5 bwr
      go_wp2_with (at_builtin; refine wpList_append_own _ rfl (.tmp 19) (.tmp 29) 56 rfl ws.heap.size 59 p0 _ 7 104 Try.underlying56 hp0 hq0 hq1 hq2 rfl (by decide) _ k _ rfl ((unhide HO1) _) ⟨w5.heap.size, 0, none⟩ 1 1 [.int .i64 4, .int .i64 0, .string y, .string { data := #[] }, .int .i64 0, .slice la ln lc, .slice ra rn rc] rfl rfl (unhide hone) (unhide honep) hb63 hby (by simpa using hbase) ?_)
      intro v' w6 ho6 hg6 _
      have B6 : Below ws.heap.size ws w6 := (b5.alloc b5.size _).grown hg6 (by simpa using hbase) (unhide hbse)
      have hrow6 := (unhide HO1) (.cells #[.int .i64 4, .int .i64 0, .string y, .string { data := #[] }, .int .i64 0, .slice la ln lc, .slice ra rn rc] 59)
      have HF := hide (show ∃ Ls' Rs' : Nat → Value, w6.ownsRow ws.heap.size 59 7 v' (k + 1) (pc N Ls' Rs' (k + 1)) ∧ ∀ i, i < k + 1 → NR w6 ws.heap.size (Ls' i) (memV A (N.getD i ByteArray.empty)) ∧ NR w6 ws.heap.size (Rs' i) (memV B (N.getD i ByteArray.empty)) from by
        have keep : ∀ s l, NR w5 ws.heap.size s l → NR w6 ws.heap.size s l := fun s l h => pair_grown hrow6 hg6 (h.below ((Below.refl _ _).alloc (Nat.le_refl _) _))
        refine ⟨fun i => if i = k then .slice la ln lc else Ls i, fun i => if i = k then .slice ra rn rc else Rs i, ?_, fun i hi => ?_⟩
        · rw [(unhide HPC), if_pos rfl, if_pos rfl, pc_congr N (Ls' := Ls) (Rs' := Rs) k (fun i hi => ⟨if_neg (by omega), if_neg (by omega)⟩)]
          exact ho6
        · by_cases e : i = k
          · subst e
            simp only [if_true]
            rw [hy]
            exact ⟨keep _ _ (unhide HL5), keep _ _ (unhide HR5)⟩
          · simp only [if_neg e]
            have h := (unhide HNR) i (by omega)
            exact ⟨keep _ _ h.1, keep _ _ h.2⟩)
      clear ho6 hg6 hrow6 hone honep hbse HO1 HNR HL5 HR5 b5 B3 B4 B5
      go_wp2_with fail
      obtain ⟨Ls', Rs', q1, q2⟩ := unhide HF
      go_roundg (N.length - (k + 1))
      case rel => exact ⟨k + 1, Ls', Rs', rfl, by go_num, by omega, q1, q2, B6⟩
      case measure => have := hg.out; omega
    · have hke : k = N.length := by omega
      have FIN := hide (show PP wr w.heap.size (.slice oa k oc) N A B from ⟨Ls, Rs, by
        have h := hown.out
        rw [hke] at h
        rw [hke]
        exact owns_lower h BS.size, fun i hi => by
        have h := hnr.out i (by omega)
        exact ⟨h.1.mono BS.size, h.2.mono BS.size⟩⟩)
      clear hown hnr hke
      go_wp2_with fail
      go_ret
      exact ⟨_, rfl, unhide FIN, BW⟩
end Mg
end Go.Proofs.Ytlmibdddfjbbdaa
