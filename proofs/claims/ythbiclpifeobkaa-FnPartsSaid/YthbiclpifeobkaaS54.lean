/-
  What the law of a value and its parts calls.
-/
import Derived.Test.YthbiclpifeobkaaS10
import Derived.Test.YthbiclpifeobkaaS44
import Derived.Test.YthbiclpifeobkaaS45
import Derived.Test.YthbiclpifeobkaaS50
import Derived.Test.YthbiclpifeobkaaS53
namespace Go.Proofs.Ythbiclpifeobkaa
open Go.RowKit Go.ChangeShapes Go.WideShapes
set_option linter.unusedVariables false
set_option linter.unusedSimpArgs false

theorem fldPR (x : Int) (a : Option Addr) (n c : Nat) (w : World) : (Instr.field 33 (.agg #[.int .i64 x, .slice a n c]) 0).run Try.prog w = .ok (.int .i64 x) w := by kernel_rfl
theorem fldIR (x y : Int) (w : World) : (Instr.field 48 (.agg #[.int .i64 x, .int .i64 y]) 1).run Try.prog w = .ok (.int .i64 y) w := by kernel_rfl
set_option maxRecDepth 100000 in
set_option maxHeartbeats 4000000 in
theorem drawEach_any (a : Option Addr) (len cap : Nat) (w : World) (hB : Byts w a len cap) (hl : len ≤ 1048600) : Calls Try.prog 15 #[.slice a len cap] w fun e w' => ∃ s l, e = .returned s ∧ Dv.Got w' w.heap.size s l ∧ Below w.heap.size w w' := by
  have HS := hide (l1Source_any a len cap w hB.2 hB.1 hl)
  clear hB
  go_enter Try.func15, Try.ntmps15
  go_wp2_with fail
  refine (unhide HS).mono ?_
  rintro e w1 ⟨rfl, S1, B1⟩
  go_wp2_with fail
  refine (l1Bent_any w.heap.size len cap 0 a w1 S1 (by omega)).mono ?_
  rintro e w2 ⟨s, l, at2, rfl, hr, hl3, hok, S2, _, T2, g, gc, rfl⟩
  have BF : Below w.heap.size w w2 := B1.trans (T2.below B1.size (Nat.le_refl _))
  have HG := hide (show Dv.Got w2 w.heap.size (.slice (some ⟨g, 0, none⟩) l.length gc) l from ⟨⟨g, gc, rfl⟩, hr.mono B1.size, hl3, hok⟩)
  clear hr hok S1 S2 T2
  go_wp2_with fail
  go_ret
  exact ⟨_, l, rfl, unhide HG, BF⟩
theorem PR.lv {w : World} {lo hi : Nat} {s : Value} {ps : List (List M.Cl)} (h : PR w lo hi s ps) : ∃ a c, s = .slice a ps.length c ∧ ps.length ≤ c ∧ LV w a ps := by
  rcases h with ⟨rfl, rfl⟩ | ⟨g, cap, xs, β, γ, h1, h2, h3, h4, h5, h6, _⟩
  · exact ⟨none, 0, rfl, Nat.le_refl _, fun i hi => absurd hi (by simp)⟩
  · refine ⟨_, cap, h1, h2, fun i hi => ?_⟩
    obtain ⟨k1, k2, k3, k4, k5, k6⟩ := h6 i hi
    exact ⟨g, β i, 0, γ i, rfl, h5.lt, (h5.cell i).trans k1, k2, k6.lt, k6.row⟩
/-- The places of the parts, as a list that was told. -/
def IV (w : World) (a : Option Addr) (l : List M.Cl) (n : Nat) : Prop := ∀ i, i < n → ∃ g, a = some ⟨g, 0, none⟩ ∧ g < w.heap.size ∧ w.cell? ⟨g, i, none⟩ = some (.int .i64 (M.iter l i 1 : Nat))
theorem IV.below {w w' : World} {a : Option Addr} {l : List M.Cl} {n : Nat} (h : IV w a l n) (hb : Below w.heap.size w w') : IV w' a l n := fun i hi => by
  obtain ⟨g, h1, h2, h3⟩ := h i hi
  exact ⟨g, h1, Nat.lt_of_lt_of_le h2 hb.size, (hb.cell h2).trans h3⟩
theorem ResI.iv {w : World} {B n : Nat} {s : Value} {l : List M.Cl} (h : ResI w B s (firstPl l 0 n)) : ∃ a c, s = .slice a n c ∧ n ≤ c ∧ IV w a l n := by
  have hn := firstPl_length l 0 n
  obtain ⟨_, ⟨rfl, h2⟩ | ⟨b, cap, rfl, h3, h4, h5⟩⟩ := h
  · rw [h2] at hn
    simp at hn
    subst hn
    exact ⟨none, 0, rfl, Nat.le_refl _, fun i hi => absurd hi (by simp)⟩
  · rw [hn] at h4 ⊢
    refine ⟨_, cap, rfl, h4, fun i hi => ⟨b, rfl, ?_, ?_⟩⟩
    · obtain ⟨xs, ho, _⟩ := h5; exact ho.lt
    · have := h5.cell (i := i) (by omega)
      rw [firstPl_getD l 0 n i hi] at this
      exact this
theorem Res.rowedP {w : World} {B : Nat} {s : Value} {l : List M.Cl} (h : Res w B s l) (hne : l ≠ []) : ∃ b cap, s = .slice (some ⟨b, 0, none⟩) l.length cap ∧ l.length ≤ cap ∧ B ≤ b ∧ b < w.heap.size ∧ Row w b 0 l := by
  obtain ⟨_, ⟨_, h2⟩ | ⟨c, cc, h3, h4, h5, h6⟩⟩ := h
  · exact absurd h2 hne
  · exact ⟨c, cc, h3, h5, h4, h6.lt, h6.row⟩
theorem firstK_snoc (v : List M.Cl) (k : Nat) : firstK v k ++ [(v.getD (M.iter v k 1) M.zero).key] = firstK v (k + 1) := by simp [firstK, List.range_succ]
theorem str_plain (s : ByteArray) : ∀ u ∈ ([Value.string s] : List Value), u.oneCell' = true := by
  intro u hu
  rw [List.mem_singleton.1 hu]
  rfl
namespace Dv
/-- What the law holds of the parts and of their places. -/
structure Lq (w : World) (b3 b5 c2 c4 n : Nat) (a2 a4 : Option Addr) (l : List M.Cl) : Prop where
  res1 : Own w b3 33 [.int .i64 0, .slice a2 n c2]
  res2 : Own w b5 37 [.int .i64 0, .slice a4 n c4]
  lv : LV w a2 (subs l 0)
  iv : IV w a4 l n
theorem Lq.below {w w' : World} {b3 b5 c2 c4 n : Nat} {a2 a4 : Option Addr} {l : List M.Cl} (h : Lq w b3 b5 c2 c4 n a2 a4 l) (hb : Below w.heap.size w w') : Lq w' b3 b5 c2 c4 n a2 a4 l :=
  ⟨h.res1.below hb h.res1.lt, h.res2.below hb h.res2.lt, h.lv.below hb, h.iv.below hb⟩
section
variable {W V : World} {B : Nat} {s : Value} {l : List M.Cl}
theorem eci (G : Got W B s l) (hV : Below W.heap.size W V) {q : Int} {ps : List (List M.Cl)} (hq : eachOut l = (q, ps)) : Calls Try.prog 16 #[s] V fun e V' => ∃ a c, e = .returned (.agg #[.int .i64 q, .slice a ps.length c]) ∧ ps.length ≤ c ∧ LV V' a ps ∧ Below V.heap.size V V' := by
  obtain ⟨g, gc, rfl, hg, hc, hr⟩ := G.at
  refine (implEachOf_any l g 0 gc V (hr.below hV hg) (Nat.lt_of_lt_of_le hg hV.size) (by have := G.2.2.1; omega) hc G.2.2.2).mono fun e V' h => ?_
  rw [hq] at h
  obtain ⟨s', rfl, hp, hb⟩ := h
  obtain ⟨a, c, rfl, h1, h2⟩ := PR.lv hp
  exact ⟨a, c, rfl, h1, h2, hb⟩
theorem ecs (G : Got W B s l) (hV : Below W.heap.size W V) {q : Int} {ps : List (List M.Cl)} (hq : eachOut l = (q, ps)) : Calls Try.prog 17 #[s] V fun e V' => ∃ a n c, e = .returned (.agg #[.int .i64 q, .slice a n c]) ∧ Below V.heap.size V V' := by
  obtain ⟨g, gc, rfl, hg, hc, hr⟩ := G.at
  refine (specEachOf_any l g 0 gc V (hr.below hV hg) (Nat.lt_of_lt_of_le hg hV.size) (by have := G.2.2.1; omega) hc G.2.2.2).mono fun e V' h => ?_
  rw [hq] at h
  obtain ⟨s', rfl, hp, hb⟩ := h
  obtain ⟨a, n, c, rfl⟩ := hp.shape
  exact ⟨a, n, c, rfl, hb⟩
theorem chi (G : Got W B s l) (hV : Below W.heap.size W V) (hv : M.valueFault l = 0) : Calls Try.prog 18 #[s, .int .i64 0] V fun e V' => ∃ a c, e = .returned (.agg #[.int .i64 0, .slice a (M.arity l 0) c]) ∧ M.arity l 0 ≤ c ∧ IV V' a l (M.arity l 0) ∧ Below V.heap.size V V' := by
  obtain ⟨g, gc, rfl, hg, hc, hr⟩ := G.at
  refine (implChildrenAt_any l g 0 gc 0 V (hr.below hV hg) (Nat.lt_of_lt_of_le hg hV.size) (by have := G.2.2.1; omega) hc G.2.2.2).mono fun e V' h => ?_
  rw [child_ok (asked_in hv (by omega) (by have := (M.fault_zero hv).1; omega))] at h
  obtain ⟨s', rfl, hp, hb⟩ := h
  obtain ⟨a, c, rfl, h1, h2⟩ := ResI.iv hp
  exact ⟨a, c, rfl, h1, h2, hb⟩
theorem eni (G : Got W B s l) (hV : Below W.heap.size W V) (hv : M.valueFault l = 0) : Calls Try.prog 22 #[s, .int .i64 0] V fun e V' => e = .returned (.agg #[.int .i64 0, .int .i64 (l.length : Nat)]) ∧ Below V.heap.size V V' := by
  obtain ⟨g, gc, rfl, hg, hc, hr⟩ := G.at
  refine (implEndAt_any l g 0 gc 0 V (hr.below hV hg) (Nat.lt_of_lt_of_le hg hV.size) (by have := G.2.2.1; omega) hc G.2.2.2).mono fun e V' h => ?_
  rw [endAt_ok (asked_in hv (by omega) (by have := (M.fault_zero hv).1; omega))] at h
  simp only [show Int.toNat 0 = 0 from rfl, end_whole hv] at h
  exact h
theorem ptq (G : Got W B s l) (hV : Below W.heap.size W V) {k : Nat} {q : Int} {r : List M.Cl} (hq : partOut l k = (q, r)) : Calls Try.prog 19 #[s, .int .i64 k] V fun e V' => ∃ s', e = .returned (.agg #[.int .i64 q, s']) ∧ Res V' V.heap.size s' r ∧ Below V.heap.size V V' := by
  obtain ⟨g, gc, rfl, hg, hc, hr⟩ := G.at
  refine (implPartAt_any l g 0 gc k V (hr.below hV hg) (Nat.lt_of_lt_of_le hg hV.size) (by have := G.2.2.1; omega) hc G.2.2.2).mono fun e V' h => ?_
  rw [hq] at h
  exact h
end
/-- What stands of a value that has parts. -/
structure Fp (l : List M.Cl) (n : Nat) : Prop where
  ok : M.valueFault l = 0
  sub : eachOut l = (0, subs l 0)
  len : (subs l 0).length = n
  small : n < 200
  at_ : ∀ i, i < n → M.iter l i 1 < l.length ∧ (subs l 0).getD i [] = part l (M.iter l i 1) ∧ M.valueFault (part l (M.iter l i 1)) = 0 ∧ partOut l (M.iter l i 1 : Nat) = (0, part l (M.iter l i 1)) ∧ sameOut (part l (M.iter l i 1)) (part l (M.iter l i 1)) = true ∧ ∀ c ∈ part l (M.iter l i 1), c.ok
  valid : ∀ j, j < (subs l 0).length → M.valueFault ((subs l 0).getD j []) = 0
  okS : OkS (subs l 0)
  same : sameOut l l = true
theorem fp_of {l : List M.Cl} (hok : ∀ c ∈ l, c.ok) (h : (eachOut l).1 = 0) : Fp l (M.arity l 0) ∧ ((l.getD 0 M.zero).kind = 5 ∨ (l.getD 0 M.zero).kind = 6) := by
  have hv : M.valueFault l = 0 := by
    by_cases hv : M.valueFault l = 0
    · exact hv
    · unfold eachOut at h; rw [if_pos hv] at h; exact h
  have hl1 := (M.fault_zero hv).1
  have hl2 := (M.fault_zero hv).2.1
  have hin := M.places_in hv 0 (by omega)
  have hk : (l.getD 0 M.zero).kind = 5 ∨ (l.getD 0 M.zero).kind = 6 := by
    by_cases hk : (l.getD 0 M.zero).kind = 5 ∨ (l.getD 0 M.zero).kind = 6
    · exact hk
    · unfold eachOut at h; rw [if_neg (by simp [hv]), if_neg hk] at h; cases h
  have hat : ∀ i, i < M.arity l 0 → M.iter l i 1 < l.length ∧ (subs l 0).getD i [] = part l (M.iter l i 1) ∧ M.valueFault (part l (M.iter l i 1)) = 0 ∧ partOut l (M.iter l i 1 : Nat) = (0, part l (M.iter l i 1)) ∧ sameOut (part l (M.iter l i 1)) (part l (M.iter l i 1)) = true ∧ ∀ c ∈ part l (M.iter l i 1), c.ok := by
    intro i hi
    have h1 := hin.1 i hi
    simp only [Nat.zero_add] at h1
    have hlt : M.iter l i 1 < l.length := by have := hin.2.2.1; omega
    have hpv := part_valid hv hlt
    refine ⟨hlt, by simp [subs, M.places, List.getD_eq_getElem?_getD, hi], hpv, ?_, ?_, part_okc hv hok hlt⟩
    · rw [part_ok (asked_in hv (by omega) (by omega))]; simp
    · rw [Od.same_eq hpv hpv, Od.out_self hpv]; rfl
  refine ⟨⟨hv, by unfold eachOut; rw [if_neg (by simp [hv]), if_pos hk], subs_length l 0, by have := arity_lt hv; omega, hat, fun j hj => ?_, fun j hj => ?_, by rw [Od.same_eq hv hv, Od.out_self hv]; rfl⟩, hk⟩
  · rw [subs_length] at hj; rw [(hat j hj).2.1]; exact (hat j hj).2.2.1
  · rw [subs_length] at hj; rw [(hat j hj).2.1]; exact (hat j hj).2.2.2.2.2
theorem key_small {l : List M.Cl} (hv : M.valueFault l = 0) : (∀ i, i < (keysAt l 0).length → ((keysAt l 0).getD i ByteArray.empty).size ≤ 1048576) ∧ allText (keysAt l 0) = true := by
  have ht := keys_text hv
  exact ⟨fun i hi => by have h := ht i hi; unfold M.textOk at h; rw [Bool.and_eq_true, decide_eq_true_eq] at h; omega, allText_all _ ht⟩
theorem arr_told {l : List M.Cl} {n : Nat} (F : Fp l n) (hk : (l.getD 0 M.zero).kind = 5) : arrOut (subs l 0) = (0, l) := by
  have := F.small; have := F.len
  rw [arr_ok (by omega) (firstBad_none _ F.valid), arr_again F.ok hk, told_ok F.ok]
theorem obj_told {l : List M.Cl} {n : Nat} (F : Fp l n) (hk : (l.getD 0 M.zero).kind = 6) : objOut (keysAt l 0) (subs l 0) = (0, l) := by
  have := F.small; have := F.len; have h1 := keysAt_length l 0; have h2 := subs_length l 0
  rw [obj_ok (by omega) (key_small F.ok).2 (firstBad_none _ F.valid), obj_again F.ok hk, told_ok F.ok]
end Dv

end Go.Proofs.Ythbiclpifeobkaa
