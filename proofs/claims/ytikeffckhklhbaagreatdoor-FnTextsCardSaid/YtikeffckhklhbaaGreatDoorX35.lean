/-
  impl: a value by its first byte, and a value with the blanks around it.
-/
import Derived.Test.YtikeffckhklhbaaGreatDoorX34
namespace Go.Proofs.YtikeffckhklhbaaGreatDoor
open Go.RowKit
set_option linter.unusedVariables false
set_option linter.unusedSimpArgs false

namespace J
/-- A value by its first byte. -/
def bareR (rec : Nat → Rv) (s : ByteArray) (k : Nat) : Rv :=
  if peek s k = 110 then wordV s k [110, 117, 108, 108] 0
  else if peek s k = 102 then wordV s k [102, 97, 108, 115, 101] 1
  else if peek s k = 116 then wordV s k [116, 114, 117, 101] 2
  else if peek s k = 91 then manyR rec s false (skip s (k + 1))
  else if peek s k = 123 then manyR rec s true (skip s (k + 1))
  else if peek s k = 34 then strV s k
  else numV s k
theorem oneR_bare {f d k : Nat} {s : ByteArray} (hk : k < s.size) (hd : d < 20) : oneR (f + 1) d s k = bareR (oneR f (d + 1) s) s k := by
  rw [oneR, if_neg (by omega), if_neg (by omega)]; rfl
theorem oneR_end {f d k : Nat} {s : ByteArray} (hk : s.size ≤ k) : oneR (f + 1) d s k = .inl (5, s.size) := by rw [oneR, if_pos hk]
theorem oneR_deep {f d k : Nat} {s : ByteArray} (hk : k < s.size) (hd : 20 ≤ d) : oneR (f + 1) d s k = .inl (7, k) := by rw [oneR, if_neg (by omega), if_pos hd]
end J

set_option maxRecDepth 100000 in
set_option maxHeartbeats 8000000 in
theorem bareValue_any (rec : Nat → J.Rv) (b d : Nat) (s : ByteArray) (k : Nat) (w : World) (h : Rd w b 49 s k [.int .i64 (d : Int)]) (her : ErrCell w b) (hk : k < s.size) (hs : s.size ≤ 4000)
    (hval : ∀ j w, j ≤ s.size → Rd w b 49 s j [.int .i64 (d : Int)] → ErrCell w b → Calls Tryz.prog 37 #[.pointer (some ⟨b, 0, none⟩)] w (VLeft (J.skip s) (rec (J.skip s j)) w b s d))
    (hfit : ∀ j, j ≤ s.size → J.Fit s j (rec j)) (hbare : ∀ j v e, rec j = .inr (v, e) → Bare v) :
    Calls Tryz.prog 67 #[.pointer (some ⟨b, 0, none⟩)] w (VLeft id (J.bareR rec s k) w b s d) := by
  have hs' : s.size ≤ 1048576 := by omega
  have hk' : k ≤ s.size := by omega
  have V0 := hide (Vs.start h)
  have HVAL := hide hval
  have HFIT := hide hfit
  have HBARE := hide hbare
  have HER := hide her
  clear h her hval hfit hbare
  by_cases hx : J.peek s k = 110
  · have HR := hide (show J.bareR rec s k = J.wordV s k [110, 117, 108, 108] 0 by unfold J.bareR; rw [if_pos hx])
    generalize J.bareR rec s k = RR at *
    go_enter Tryz.func67, Tryz.ntmps67
    go_wp2_with fail
    refine (peek_any b 49 s k _ _ (unhide V0).rd hk' hs').mono ?_
    rintro e w1 ⟨rfl, q1, hw1⟩
    have V1 : Vs w w1 b s k d := by rw [hw1]; exact (unhide V0).drewN q1
    clear hw1 V0
    rw [hx]
    clear hx
    have hbw := V1.rd.lt
    have HWD := hide (fun o => word_any b 49 s k _ (w1.alloc o) (V1.alloc o).rd hk' hs' ⟨#[110, 117, 108, 108]⟩ (by decide) (by decide))
    have H1 := hide (fun o => V1.alloc o)
    have hsz := V1.tch.size
    clear V1
    go_wp2_with fail
    refine ((unhide HWD) _).mono ?_
    rintro e w2 ⟨hleft, ht2⟩
    have hr := res_tch (one_cell w1 w1.heap.size w1.heap.size (J.kindCl 0) rfl (Nat.le_refl _)) ht2 (Nat.le_refl _) hbw
    have hr' := hr.mono hsz
    rcases hleft with ⟨m, hm, hms, rfl, hr2⟩ | ⟨m, hm, hms, rfl, hr2⟩
    · have V2 := ((unhide H1) _).go hr2 ht2
      have fin := hide ((unhide HR).trans (show J.wordV s k [110, 117, 108, 108] 0 = .inr ([J.kindCl 0], m) by unfold J.wordV; rw [show J.wordR s k [110, 117, 108, 108] = .inr m from hm]))
      clear hr2 ht2 hm hr HWD H1
      go_wp2_with fail
      go_ret2
      exact .inl ⟨_, _, _, unhide fin, rfl, hr', V2⟩
    · have V2 := ((unhide H1) _).go hr2 ht2
      have fin := hide ((unhide HR).trans (show J.wordV s k [110, 117, 108, 108] 0 = .inl (5, m) by unfold J.wordV; rw [show J.wordR s k [110, 117, 108, 108] = .inl m from hm]))
      clear hr2 ht2 hm hr HWD H1
      go_wp2_with fail
      go_ret2
      exact .inr ⟨5, m, m, _, _, _, unhide fin, rfl, hms, V2⟩
  by_cases hx : J.peek s k = 102
  · have HR := hide (show J.bareR rec s k = J.wordV s k [102, 97, 108, 115, 101] 1 by unfold J.bareR; rw [if_neg (by rw [hx]; decide), if_pos hx])
    generalize J.bareR rec s k = RR at *
    go_enter Tryz.func67, Tryz.ntmps67
    go_wp2_with fail
    refine (peek_any b 49 s k _ _ (unhide V0).rd hk' hs').mono ?_
    rintro e w1 ⟨rfl, q1, hw1⟩
    have V1 : Vs w w1 b s k d := by rw [hw1]; exact (unhide V0).drewN q1
    clear hw1 V0
    rw [hx]
    clear hx
    have hbw := V1.rd.lt
    have HWD := hide (fun o => word_any b 49 s k _ (w1.alloc o) (V1.alloc o).rd hk' hs' ⟨#[102, 97, 108, 115, 101]⟩ (by decide) (by decide))
    have H1 := hide (fun o => V1.alloc o)
    have hsz := V1.tch.size
    clear V1
    go_wp2_with fail
    refine ((unhide HWD) _).mono ?_
    rintro e w2 ⟨hleft, ht2⟩
    have hr := res_tch (one_cell w1 w1.heap.size w1.heap.size (J.kindCl 1) rfl (Nat.le_refl _)) ht2 (Nat.le_refl _) hbw
    have hr' := hr.mono hsz
    rcases hleft with ⟨m, hm, hms, rfl, hr2⟩ | ⟨m, hm, hms, rfl, hr2⟩
    · have V2 := ((unhide H1) _).go hr2 ht2
      have fin := hide ((unhide HR).trans (show J.wordV s k [102, 97, 108, 115, 101] 1 = .inr ([J.kindCl 1], m) by unfold J.wordV; rw [show J.wordR s k [102, 97, 108, 115, 101] = .inr m from hm]))
      clear hr2 ht2 hm hr HWD H1
      go_wp2_with fail
      go_ret2
      exact .inl ⟨_, _, _, unhide fin, rfl, hr', V2⟩
    · have V2 := ((unhide H1) _).go hr2 ht2
      have fin := hide ((unhide HR).trans (show J.wordV s k [102, 97, 108, 115, 101] 1 = .inl (5, m) by unfold J.wordV; rw [show J.wordR s k [102, 97, 108, 115, 101] = .inl m from hm]))
      clear hr2 ht2 hm hr HWD H1
      go_wp2_with fail
      go_ret2
      exact .inr ⟨5, m, m, _, _, _, unhide fin, rfl, hms, V2⟩
  by_cases hx : J.peek s k = 116
  · have HR := hide (show J.bareR rec s k = J.wordV s k [116, 114, 117, 101] 2 by unfold J.bareR; rw [if_neg (by rw [hx]; decide), if_neg (by rw [hx]; decide), if_pos hx])
    generalize J.bareR rec s k = RR at *
    go_enter Tryz.func67, Tryz.ntmps67
    go_wp2_with fail
    refine (peek_any b 49 s k _ _ (unhide V0).rd hk' hs').mono ?_
    rintro e w1 ⟨rfl, q1, hw1⟩
    have V1 : Vs w w1 b s k d := by rw [hw1]; exact (unhide V0).drewN q1
    clear hw1 V0
    rw [hx]
    clear hx
    have hbw := V1.rd.lt
    have HWD := hide (fun o => word_any b 49 s k _ (w1.alloc o) (V1.alloc o).rd hk' hs' ⟨#[116, 114, 117, 101]⟩ (by decide) (by decide))
    have H1 := hide (fun o => V1.alloc o)
    have hsz := V1.tch.size
    clear V1
    go_wp2_with fail
    refine ((unhide HWD) _).mono ?_
    rintro e w2 ⟨hleft, ht2⟩
    have hr := res_tch (one_cell w1 w1.heap.size w1.heap.size (J.kindCl 2) rfl (Nat.le_refl _)) ht2 (Nat.le_refl _) hbw
    have hr' := hr.mono hsz
    rcases hleft with ⟨m, hm, hms, rfl, hr2⟩ | ⟨m, hm, hms, rfl, hr2⟩
    · have V2 := ((unhide H1) _).go hr2 ht2
      have fin := hide ((unhide HR).trans (show J.wordV s k [116, 114, 117, 101] 2 = .inr ([J.kindCl 2], m) by unfold J.wordV; rw [show J.wordR s k [116, 114, 117, 101] = .inr m from hm]))
      clear hr2 ht2 hm hr HWD H1
      go_wp2_with fail
      go_ret2
      exact .inl ⟨_, _, _, unhide fin, rfl, hr', V2⟩
    · have V2 := ((unhide H1) _).go hr2 ht2
      have fin := hide ((unhide HR).trans (show J.wordV s k [116, 114, 117, 101] 2 = .inl (5, m) by unfold J.wordV; rw [show J.wordR s k [116, 114, 117, 101] = .inl m from hm]))
      clear hr2 ht2 hm hr HWD H1
      go_wp2_with fail
      go_ret2
      exact .inr ⟨5, m, m, _, _, _, unhide fin, rfl, hms, V2⟩
  by_cases hx : J.peek s k = 34
  · have HR := hide (show J.bareR rec s k = J.strV s k by unfold J.bareR; rw [if_neg (by rw [hx]; decide), if_neg (by rw [hx]; decide), if_neg (by rw [hx]; decide), if_neg (by rw [hx]; decide), if_neg (by rw [hx]; decide), if_pos hx])
    generalize J.bareR rec s k = RR at *
    go_enter Tryz.func67, Tryz.ntmps67
    go_wp2_with fail
    refine (peek_any b 49 s k _ _ (unhide V0).rd hk' hs').mono ?_
    rintro e w1 ⟨rfl, q1, hw1⟩
    have V1 : Vs w w1 b s k d := by rw [hw1]; exact (unhide V0).drewN q1
    clear hw1 V0
    rw [hx]
    clear hx
    go_wp2_with fail
    refine (quoted_any b 49 s k _ _ V1.rd hk' hs').mono ?_
    rintro e w2 ⟨hleft, ht2⟩
    rcases hleft with ⟨l, m, hm, rfl, hms, hr2⟩ | ⟨c, m, q, hm, rfl, hq, hr2⟩
    · have V2 := V1.go hr2 ht2
      have fin := hide ((unhide HR).trans (show J.strV s k = .inr ([⟨4, 0, J.bytes l, ByteArray.empty, 0⟩], m) by unfold J.strV; rw [hm]; rfl))
      have HC := hide (one_cell w2 w.heap.size w2.heap.size ⟨4, 0, J.bytes l, ByteArray.empty, 0⟩ rfl V2.tch.size)
      have V3 := hide (fun o => V2.alloc o)
      clear hr2 ht2 hm V1 V2
      go_wp2_with fail
      go_ret2
      exact .inl ⟨_, _, _, unhide fin, rfl, unhide HC, (unhide V3) _⟩
    · have V2 := V1.go hr2 ht2
      have fin := hide ((unhide HR).trans (show J.strV s k = .inl (c, m) by unfold J.strV; rw [hm]))
      have V3 := hide (fun o => V2.alloc o)
      clear hr2 ht2 hm V1 V2
      go_wp2_with fail
      go_ret2
      exact .inr ⟨c, m, q, _, _, _, unhide fin, rfl, hq, (unhide V3) _⟩
  by_cases hx : J.peek s k = 91
  · have HR := hide (show J.bareR rec s k = J.manyR rec s false (J.skip s (k + 1)) by unfold J.bareR; rw [if_neg (by rw [hx]; decide), if_neg (by rw [hx]; decide), if_neg (by rw [hx]; decide), if_pos hx])
    have HX := hide hx
    generalize J.bareR rec s k = RR at *
    go_enter Tryz.func67, Tryz.ntmps67
    go_wp2_with fail
    refine (peek_any b 49 s k _ _ (unhide V0).rd hk' hs').mono ?_
    rintro e w1 ⟨rfl, q1, hw1⟩
    have V1 : Vs w w1 b s k d := by rw [hw1]; exact (unhide V0).drewN q1
    clear hw1 V0
    rw [hx]
    clear hx
    have HC := hide (array_any rec b d s k w1 V1.rd (V1.err (unhide HER)) (unhide HX) hs (unhide HVAL) (unhide HFIT) (unhide HBARE))
    go_wp2_with fail
    refine (unhide HC).mono ?_
    rintro e w2 hS
    have hsz := V1.tch.size
    rcases hS with ⟨v, m, sv, hq, rfl, hr, hv2⟩ | ⟨c, m, q, a5, n5, c5, hq, rfl, hqs, hv2⟩
    · have fin := hide ((unhide HR).trans hq)
      have V2 := V1.trans hv2
      have hr' := hr.mono hsz
      obtain ⟨a5, n5, c5, rfl⟩ := hr.shape
      clear hv2 hq hr V1 HC
      go_wp2_with fail
      go_ret2
      exact .inl ⟨_, _, _, unhide fin, rfl, hr', V2⟩
    · have fin := hide ((unhide HR).trans hq)
      have V2 := V1.trans hv2
      clear hv2 hq V1 HC
      go_wp2_with fail
      go_ret2
      exact .inr ⟨c, m, q, _, _, _, unhide fin, rfl, hqs, V2⟩
  by_cases hx : J.peek s k = 123
  · have HR := hide (show J.bareR rec s k = J.manyR rec s true (J.skip s (k + 1)) by unfold J.bareR; rw [if_neg (by rw [hx]; decide), if_neg (by rw [hx]; decide), if_neg (by rw [hx]; decide), if_neg (by rw [hx]; decide), if_pos hx])
    have HX := hide hx
    generalize J.bareR rec s k = RR at *
    go_enter Tryz.func67, Tryz.ntmps67
    go_wp2_with fail
    refine (peek_any b 49 s k _ _ (unhide V0).rd hk' hs').mono ?_
    rintro e w1 ⟨rfl, q1, hw1⟩
    have V1 : Vs w w1 b s k d := by rw [hw1]; exact (unhide V0).drewN q1
    clear hw1 V0
    rw [hx]
    clear hx
    have HC := hide (object_any rec b d s k w1 V1.rd (V1.err (unhide HER)) (unhide HX) hs (unhide HVAL) (unhide HFIT) (unhide HBARE))
    go_wp2_with fail
    refine (unhide HC).mono ?_
    rintro e w2 hS
    have hsz := V1.tch.size
    rcases hS with ⟨v, m, sv, hq, rfl, hr, hv2⟩ | ⟨c, m, q, a5, n5, c5, hq, rfl, hqs, hv2⟩
    · have fin := hide ((unhide HR).trans hq)
      have V2 := V1.trans hv2
      have hr' := hr.mono hsz
      obtain ⟨a5, n5, c5, rfl⟩ := hr.shape
      clear hv2 hq hr V1 HC
      go_wp2_with fail
      go_ret2
      exact .inl ⟨_, _, _, unhide fin, rfl, hr', V2⟩
    · have fin := hide ((unhide HR).trans hq)
      have V2 := V1.trans hv2
      clear hv2 hq V1 HC
      go_wp2_with fail
      go_ret2
      exact .inr ⟨c, m, q, _, _, _, unhide fin, rfl, hqs, V2⟩
  have HR := hide (show J.bareR rec s k = J.numV s k by unfold J.bareR; rename_i x1 x2 x3 x4 x5; rw [if_neg x1, if_neg x2, if_neg x3, if_neg x5, if_neg hx, if_neg x4])
  generalize J.bareR rec s k = RR at *
  rename_i x1 x2 x3 x4 x5
  go_enter Tryz.func67, Tryz.ntmps67
  go_wp2_with fail
  refine (peek_any b 49 s k _ _ (unhide V0).rd hk' hs').mono ?_
  rintro e w1 ⟨rfl, q1, hw1⟩
  have V1 : Vs w w1 b s k d := by rw [hw1]; exact (unhide V0).drewN q1
  clear hw1 V0
  have y1 : (J.peek s k == 110) = false := by simpa using x1
  have y2 : (J.peek s k == 102) = false := by simpa using x2
  have y3 : (J.peek s k == 116) = false := by simpa using x3
  have y4 : (J.peek s k == 34) = false := by simpa using x4
  have y5 : (J.peek s k == 91) = false := by simpa using x5
  have y6 : (J.peek s k == 123) = false := by simpa using hx
  clear x1 x2 x3 x4 x5 hx
  generalize J.peek s k = pk at *
  obtain ⟨ev, hev, hG, hGb, hv⟩ := V1.err (unhide HER)
  go_wp2_with fail
  refine (number_any b 49 s k _ _ V1.rd hk' hs' ev hev hG hGb hv).mono ?_
  rintro e w2 ⟨hleft, ht2⟩
  rcases hleft with ⟨c, m, hm, rfl, hms, hr2⟩ | ⟨c, m, q, hm, rfl, hq, hr2⟩
  · have V2 := V1.go hr2 ht2
    have fin := hide ((unhide HR).trans (show J.numV s k = .inr ([⟨3, c, ByteArray.empty, ByteArray.empty, 0⟩], m) by unfold J.numV; rw [show J.numR s k = .inr (c, m) from hm]))
    have HC := hide (one_cell w2 w.heap.size w2.heap.size ⟨3, c, ByteArray.empty, ByteArray.empty, 0⟩ rfl V2.tch.size)
    have V3 := hide (fun o => V2.alloc o)
    clear hr2 ht2 hm V1 V2 hv
    go_wp2_with fail
    go_ret2
    exact .inl ⟨_, _, _, unhide fin, rfl, unhide HC, (unhide V3) _⟩
  · have V2 := V1.go hr2 ht2
    have fin := hide ((unhide HR).trans (show J.numV s k = .inl (c, m) by unfold J.numV; rw [show J.numR s k = .inl (c, m) from hm]))
    have V3 := hide (fun o => V2.alloc o)
    clear hr2 ht2 hm V1 V2 hv
    go_wp2_with fail
    go_ret2
    exact .inr ⟨c, m, q, _, _, _, unhide fin, rfl, hq, (unhide V3) _⟩

theorem Vs.deeper {w wr : World} {b : Nat} {s : ByteArray} {k d : Nat} (h : Vs w wr b s k d) : Vs w (wr.setCell ⟨b, 2, none⟩ (.int .i64 ((d : Int) + 1))) b s k (d + 1) := ⟨h.rd.set 2 _, h.tch.trans (Tch.set _ _ _ _ _)⟩
theorem Vs.higher {w wr : World} {b : Nat} {s : ByteArray} {k d : Nat} (h : Vs w wr b s k (d + 1)) : Vs w (wr.setCell ⟨b, 2, none⟩ (.int .i64 (d : Int))) b s k d := ⟨h.rd.set 2 _, h.tch.trans (Tch.set _ _ _ _ _)⟩

set_option maxRecDepth 100000 in
set_option maxHeartbeats 4000000 in
theorem value_step (f b d : Nat) (s : ByteArray) (k : Nat) (w : World) (h : Rd w b 49 s k [.int .i64 (d : Int)]) (her : ErrCell w b) (hk : k ≤ s.size) (hs : s.size ≤ 4000) (hd : d ≤ 20)
    (hbv : d < 20 → ∀ k w, k < s.size → Rd w b 49 s k [.int .i64 ((d + 1 : Nat) : Int)] → ErrCell w b → Calls Tryz.prog 67 #[.pointer (some ⟨b, 0, none⟩)] w (VLeft id (J.bareR (J.oneR f (d + 1) s) s k) w b s (d + 1))) :
    Calls Tryz.prog 37 #[.pointer (some ⟨b, 0, none⟩)] w (VLeft (J.skip s) (J.oneR (f + 1) d s (J.skip s k)) w b s d) := by
  have hs' : s.size ≤ 1048576 := by omega
  have hsk := J.skip_le s k hk
  have V0 := Vs.start h
  have hb0 := h.lt
  have HBV := hide hbv
  have HER := hide her
  have HFIT := hide (J.oneR_fit s (f + 1) d (J.skip s k) hsk)
  have HE := hide (fun h => J.oneR_end (f := f) (d := d) (s := s) (k := J.skip s k) h)
  have HD := hide (fun h h2 => J.oneR_deep (f := f) (d := d) (s := s) (k := J.skip s k) h h2)
  have HB := hide (fun h h2 => J.oneR_bare (f := f) (d := d) (s := s) (k := J.skip s k) h h2)
  generalize J.oneR (f + 1) d s (J.skip s k) = RR at *
  clear hbv her
  go_enter Tryz.func37, Tryz.ntmps37
  go_wp2_with fail
  refine (skipBlanks_any b 49 s k _ _ h hk hs').mono ?_
  rintro e w1 ⟨rfl, hr1, ht1⟩
  have V1 := V0.go hr1 ht1
  clear h V0 hr1 ht1
  generalize J.skip s k = K at *
  go_wp2_with fail
  refine (ended_any b 49 s K _ _ V1.rd hs').mono ?_
  rintro e w2 ⟨rfl, q2, hw2⟩
  have V2 : Vs w w2 b s K d := by rw [hw2]; exact V1.drewN q2
  clear hw2 V1
  by_cases hend : s.size ≤ K
  · have fin := hide ((unhide HE) hend)
    have hKs : K = s.size := by omega
    rw [decide_eq_true hend]
    clear hend
    go_wp2_with fail
    refine (stuck_any b 49 s K _ _ V2.rd).mono ?_
    rintro e w3 ⟨rfl, hr3, ht3⟩
    have V3 := V2.go hr3 ht3
    clear V2 hr3 ht3
    go_wp2_with fail
    go_ret2
    exact .inr ⟨5, s.size, K, _, _, _, unhide fin, by first | rfl | rw [hKs], hsk, V3⟩
  · rw [decide_eq_false hend]
    have hlt : K < s.size := by omega
    clear hend
    have c1 := fun q => show (w2.drewN q).cell? ⟨b, 1, none⟩ = some (.int .i64 (K : Int)) from V2.rd.cell 1
    have c2 : w2.cell? ⟨b, 2, none⟩ = some (.int .i64 (d : Int)) := V2.rd.cell 2
    have z2 := V2.rd.frozen 2
    by_cases hdeep : d = 20
    · have fin := hide ((unhide HD) hlt (by omega))
      have hdb : ((d : Int) == 20) = true := by rw [hdeep]; rfl
      have VD := hide (fun q => V2.drewN q)
      clear hdeep V2
      go_wp2_with fail
      go_quiet (fail)
      go_wp2_with fail
      go_ret2
      exact .inr ⟨7, K, K, _, _, _, unhide fin, rfl, hsk, (unhide VD) _⟩
    · have hd2 : d < 20 := by omega
      have hdb : ((d : Int) == 20) = false := by rw [beq_eq_false_iff_ne]; omega
      have HR := hide ((unhide HB) hlt hd2)
      have V3 := V2.deeper
      have HC := hide ((unhide HBV) hd2 K _ hlt V3.rd (V3.err (unhide HER)))
      have hsz := V3.tch.size
      clear hdeep V2
      go_wp2_with fail
      refine (unhide HC).mono ?_
      rintro e w4 hS
      rcases hS with ⟨v, m, sv, hq, rfl, hr, hv4⟩ | ⟨c, m, q, a5, n5, c5, hq, rfl, hqs, hv4⟩
      · have fin := hide ((unhide HR).trans hq)
        have V4 := V3.trans hv4
        have hfit := unhide HFIT
        rw [(unhide HR).trans hq] at hfit
        have hms := hfit.2.1
        have hr' : Res w4 w.heap.size sv v := hr.mono hsz
        have hbw : b < w.heap.size := hb0
        obtain ⟨a5, n5, c5, rfl⟩ := hr.shape
        have d2 : w4.cell? ⟨b, 2, none⟩ = some (.int .i64 ((d : Int) + 1)) := V4.rd.cell 2
        have y2 := V4.rd.frozen 2
        have V5 := V4.higher
        have hr5 := hr'.setOther ⟨b, 2, none⟩ (.int .i64 (d : Int)) (fun g hg e => by have := hr'.base g hg; simp only at e; omega)
        clear hfit hq hr hv4 V3 HC c1 c2 z2 V4 hr'
        go_wp2_with fail
        refine (skipBlanks_any b 49 s m _ _ V5.rd hms hs').mono ?_
        rintro e w6 ⟨rfl, hr6, ht6⟩
        have V6 := V5.go hr6 ht6
        have hr7 := res_tch hr5 ht6 (Nat.le_refl _) hbw
        clear V5 hr5 hr6 ht6 d2 y2
        go_wp2_with fail
        go_ret2
        exact .inl ⟨_, _, _, unhide fin, rfl, hr7, V6⟩
      · have fin := hide ((unhide HR).trans hq)
        have V4 := V3.trans hv4
        have d2 : w4.cell? ⟨b, 2, none⟩ = some (.int .i64 ((d : Int) + 1)) := V4.rd.cell 2
        have y2 := V4.rd.frozen 2
        have V5 := V4.higher
        have hsq := J.skip_le s q hqs
        clear hq hv4 V3 HC c1 c2 z2 V4
        go_wp2_with fail
        refine (skipBlanks_any b 49 s q _ _ V5.rd hqs hs').mono ?_
        rintro e w6 ⟨rfl, hr6, ht6⟩
        have V6 := V5.go hr6 ht6
        clear V5 hr6 ht6 d2 y2
        go_wp2_with fail
        go_ret2
        exact .inr ⟨c, m, _, _, _, _, unhide fin, rfl, hsq, V6⟩

/-- A value, however deep. -/
theorem value_says (s : ByteArray) (hs : s.size ≤ 4000) (f : Nat) : ∀ d, f + d = 21 → d ≤ 20 → ∀ (b k : Nat) (w : World), k ≤ s.size → Rd w b 49 s k [.int .i64 (d : Int)] → ErrCell w b →
    Calls Tryz.prog 37 #[.pointer (some ⟨b, 0, none⟩)] w (VLeft (J.skip s) (J.oneR f d s (J.skip s k)) w b s d) := by
  induction f with
  | zero => intro d h1 h2; omega
  | succ f ih =>
    intro d h1 h2 b k w hk h her
    refine value_step f b d s k w h her hk hs h2 fun hd k w hk h her => ?_
    exact bareValue_any (J.oneR f (d + 1) s) b (d + 1) s k w h her hk hs (fun j w hj h her => ih (d + 1) (by omega) (by omega) b j w hj h her) (fun j hj => J.oneR_fit s f (d + 1) j hj) (fun j v e h => J.one_bare s f (d + 1) j v e h)

end Go.Proofs.YtikeffckhklhbaaGreatDoor
