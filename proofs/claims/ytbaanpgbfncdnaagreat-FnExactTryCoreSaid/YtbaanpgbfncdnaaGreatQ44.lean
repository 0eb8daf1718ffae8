/-
  spec.l10Const, l10Made.
  The parts of a node, as spec holds them; spec.l10Try.
  spec.l10Pipe.
  spec.l1Truthy, l10Dead.
-/
import Derived.Test.YtbaanpgbfncdnaaGreatQ10
import Derived.Test.YtbaanpgbfncdnaaGreatQ11
import Derived.Test.YtbaanpgbfncdnaaGreatQ43
namespace Go.Proofs.YtbaanpgbfncdnaaGreat
open Go.RowKit
set_option linter.unusedVariables false
set_option linter.unusedSimpArgs false

namespace Ste
theorem pt_leaf {w : World} {g : Nat} {h : Hd} {vv : Value} (ho : Own w g 47 [.int .i64 h.op, .int .i64 0, .int .i64 0, .int .i64 0, .int .i64 h.num, vv]) (hr : Res w 0 vv h.val) : Pt w (.slice (some ⟨g, 0, none⟩) 1 1) (n0 h) := by
  refine ⟨[(nodeC h 0 0 0, vv)], .inr ⟨g, 1, _, rfl, Nat.zero_le _, Nat.le_refl _, ho, ⟨by simp, fun i hi => ?_⟩, fun i hi => ?_⟩, rfl⟩
  · have : i = 0 := by simpa using hi
    subst this
    exact ⟨rfl, rfl, rfl, rfl, rfl, rfl⟩
  · have : i = 0 := by simpa using hi
    subst this
    exact hr
/-- What a pass's function answers: whether something fits, and what. -/
def Ons (w : World) (o : Option Ste) (e : Ending) (w' : World) : Prop := ∃ v, e = .returned (.tuple #[v, .bool o.isSome]) ∧ (∀ s, o = some s → Pt w' v s) ∧ Below w.heap.size w w' ∧ ∃ a n c, v = .slice a n c
theorem ons_no {w w' : World} {a : Option Addr} {n c : Nat} (hb : Below w.heap.size w w') : Ons w none (.returned (.tuple #[.slice a n c, .bool false])) w' := ⟨_, rfl, fun s hs => (by cases hs), hb, _, _, _, rfl⟩
theorem ons_yes {w w' : World} {s : Ste} {a : Option Addr} {n c : Nat} (hp : Pt w' (.slice a n c) s) (hb : Below w.heap.size w w') : Ons w (some s) (.returned (.tuple #[.slice a n c, .bool true])) w' := ⟨_, rfl, fun s' hs => (by cases hs; exact hp), hb, _, _, _, rfl⟩
end Ste
end Go.Proofs.YtbaanpgbfncdnaaGreat

namespace Go.Proofs.YtbaanpgbfncdnaaGreat
open Go.RowKit
set_option linter.unusedVariables false
set_option linter.unusedSimpArgs false

namespace Ste
/-- The parts L lie as a row of lists at q. -/
structure Ps (w : World) (q : Nat) (h : Hd) (L : List Ste) : Prop where
  lt : q < w.heap.size
  at' : ∀ i, i < L.length → ∃ v, w.cell? ⟨q, i, none⟩ = some v ∧ Pt w v (g L i)
  hz : ∀ k ∈ L, sz k ≤ 900
  hF : Fit h L.length
  hO : ∀ k ∈ L, Ok k
theorem Ps.below {w w' : World} {q : Nat} {h : Hd} {L : List Ste} (H : Ps w q h L) (hb : Below w.heap.size w w') : Ps w' q h L :=
  ⟨Nat.lt_of_lt_of_le H.lt hb.size, fun i hi => by
    obtain ⟨v, h1, h2⟩ := H.at' i hi
    refine ⟨v, ?_, h2.below hb⟩
    rw [← h1]; simp only [World.cell?, hb.block q H.lt], H.hz, H.hF, H.hO⟩
theorem Ps.kid {w : World} {q : Nat} {h : Hd} {L : List Ste} (H : Ps w q h L) (i : Nat) (hi : i < L.length) : ∃ a n c, w.cell? ⟨q, i, none⟩ = some (.slice a n c) ∧ Pt w (.slice a n c) (g L i) ∧ sz (g L i) ≤ 1048576 := by
  obtain ⟨v, h1, h2⟩ := H.at' i hi
  obtain ⟨gg, cap, _, _, _, _, e, _⟩ := h2.view
  subst e
  exact ⟨_, _, _, h1, h2, Nat.le_trans (H.hz _ (g_mem hi)) (by omega)⟩
theorem Ps.num {w : World} {q : Nat} {h : Hd} {L : List Ste} (H : Ps w q h L) {n : Nat} (ho : Co.kids h.op = n) : L.length = n := by rw [← H.hF.kid, ho]
theorem field_op (o a b c n : Int) (xa : Option Addr) (xn xc : Nat) (w : World) : (Instr.field 47 (.agg #[.int .i64 o, .int .i64 a, .int .i64 b, .int .i64 c, .int .i64 n, .slice xa xn xc]) 0).run Tryz.prog w = .ok (.int .i64 o) w := by kernel_rfl
theorem cellk {w w' : World} {q i : Nat} (hb : Below w.heap.size w w') (hq : q < w.heap.size) : w'.cell? ⟨q, i, none⟩ = w.cell? ⟨q, i, none⟩ := by simp only [World.cell?, hb.block q hq]
end Ste
set_option maxRecDepth 100000 in
set_option maxHeartbeats 4000000 in
theorem specl10Try_no (h : Hd) (na nb nc : Int) (va : Option Addr) (vn vc : Nat) (q cap : Nat) (L : List Ste) (w : World) (H : Ste.Ps w q h L) (hop : h.op ≠ 9) :
    Calls Tryz.prog 99 #[.agg #[.int .i64 h.op, .int .i64 na, .int .i64 nb, .int .i64 nc, .int .i64 h.num, .slice va vn vc], .slice (some ⟨q, 0, none⟩) L.length cap] w (Ste.Ons w (Ste.tried h L)) := by
  obtain ⟨w0, hw0⟩ : ∃ w0, w0 = w.alloc (.cells #[.int .i64 h.op, .int .i64 na, .int .i64 nb, .int .i64 nc, .int .i64 h.num, .slice va vn vc] 47) := ⟨_, rfl⟩
  have B0 : Below w.heap.size w w0 := by rw [hw0]; exact (Below.refl _ _).alloc (Nat.le_refl _) _
  have O0 : Own w0 w.heap.size 47 [.int .i64 h.op, .int .i64 na, .int .i64 nb, .int .i64 nc, .int .i64 h.num, .slice va vn vc] := by rw [hw0]; exact ⟨_, heap_alloc_new _ _, rfl⟩
  have f0 : w0.cell? ⟨w.heap.size, 0, none⟩ = some (.int .i64 h.op) := O0.cell 0
  have FN : Ste.tried h L = none := by unfold Ste.tried; rw [if_neg hop]
  rw [FN]
  have e9 : (h.op == 9) = false := beq_eq_false_iff_ne.2 hop
  clear FN hop O0 H
  generalize h.op = x at *
  go_enter Tryz.func99, Tryz.ntmps99
  go_upto_region 1 with fail
  rw [← hw0]
  clear hw0
  go_wp2_with fail
  ((try simp only [Exit.inBlock, Exit.then]); refine bodyPost_ret (results_tmp2 rfl _ _ _) rfl ?_)
  exact Ste.ons_no B0
set_option maxRecDepth 100000 in
set_option maxHeartbeats 4000000 in
theorem specl10Try_9 (h : Hd) (na nb nc : Int) (va : Option Addr) (vn vc : Nat) (q cap : Nat) (L : List Ste) (w : World) (H : Ste.Ps w q h L) (hop : h.op = 9) :
    Calls Tryz.prog 99 #[.agg #[.int .i64 h.op, .int .i64 na, .int .i64 nb, .int .i64 nc, .int .i64 h.num, .slice va vn vc], .slice (some ⟨q, 0, none⟩) L.length cap] w (Ste.Ons w (Ste.tried h L)) := by
  obtain ⟨w0, hw0⟩ : ∃ w0, w0 = w.alloc (.cells #[.int .i64 h.op, .int .i64 na, .int .i64 nb, .int .i64 nc, .int .i64 h.num, .slice va vn vc] 47) := ⟨_, rfl⟩
  have B0 : Below w.heap.size w w0 := by rw [hw0]; exact (Below.refl _ _).alloc (Nat.le_refl _) _
  have O0 : Own w0 w.heap.size 47 [.int .i64 h.op, .int .i64 na, .int .i64 nb, .int .i64 nc, .int .i64 h.num, .slice va vn vc] := by rw [hw0]; exact ⟨_, heap_alloc_new _ _, rfl⟩
  have f0 : w0.cell? ⟨w.heap.size, 0, none⟩ = some (.int .i64 h.op) := O0.cell 0
  have hl : L.length = 1 := H.num (by rw [hop]; rfl)
  obtain ⟨ka, kn, kc, d0, hpt, hsz⟩ := (H.below B0).kid 0 (by omega)
  have hq0 := (H.below B0).lt
  have HT := hide (specl10Top_any _ _ w0 hpt hsz)
  have HPT := hide hpt
  have HY := hide (show ∀ x : Int, (Ste.g L 0).hd.op = x → x = 2 ∨ x = 1 ∨ x = 15 ∨ x = 17 ∨ x = 9 → Ste.tried h L = some (Ste.g L 0) from fun x e hx => by
    unfold Ste.tried; rw [if_pos hop, if_pos (by rw [e]; exact hx)])
  have HN := hide (show ∀ x : Int, (Ste.g L 0).hd.op = x → ¬ (x = 2 ∨ x = 1 ∨ x = 15 ∨ x = 17 ∨ x = 9) → Ste.tried h L = none from fun x e hx => by
    unfold Ste.tried; rw [if_pos hop, if_neg (by rw [e]; exact hx)])
  unfold Ste.Tops at HT
  generalize hx : (Ste.g L 0).hd.op = x at HT
  rw [hop] at f0
  rw [hop] at hw0 ⊢
  rw [hl]
  clear hpt hsz O0 H
  go_enter Tryz.func99, Tryz.ntmps99
  go_upto_region 1 with fail
  rw [← hw0]
  clear hw0
  go_wp2_with fail
  refine (unhide HT).mono ?_
  rintro e w1 ⟨ta, tb, tc, xa, xn, xc, rfl, _, hb1⟩
  have d1 := (Ste.cellk (i := 0) hb1 hq0).trans d0
  have B1 : Below w.heap.size w w1 := B0.trans (hb1.mono B0.size)
  have HP1 := hide ((unhide HPT).below hb1)
  have hfo := Ste.field_op x ta tb tc (Ste.g L 0).hd.num xa xn xc
  clear HT HPT hb1 d0 f0 B0
  by_cases hq : x = 2 ∨ x = 1 ∨ x = 15 ∨ x = 17 ∨ x = 9
  · have FIN := hide ((unhide HY) x hx hq)
    clear HY HN hx
    rcases hq with rfl | rfl | rfl | rfl | rfl
    all_goals
      go_wp2_with fail
      ((try simp only [Exit.inBlock, Exit.then]); refine bodyPost_ret (results_tmp2 rfl _ _ _) rfl ?_)
      rw [unhide FIN]; exact Ste.ons_yes (unhide HP1) B1
  · have FIN := hide ((unhide HN) x hx hq)
    have e2 : (x == 2) = false := beq_eq_false_iff_ne.2 (fun e => hq (by simp [e]))
    have e1 : (x == 1) = false := beq_eq_false_iff_ne.2 (fun e => hq (by simp [e]))
    have e15 : (x == 15) = false := beq_eq_false_iff_ne.2 (fun e => hq (by simp [e]))
    have e17 : (x == 17) = false := beq_eq_false_iff_ne.2 (fun e => hq (by simp [e]))
    have e9 : (x == 9) = false := beq_eq_false_iff_ne.2 (fun e => hq (by simp [e]))
    clear HY HN hx hq
    go_wp2_with fail
    ((try simp only [Exit.inBlock, Exit.then]); refine bodyPost_ret (results_tmp2 rfl _ _ _) rfl ?_)
    rw [unhide FIN]; exact Ste.ons_no B1
theorem specl10Try_any (h : Hd) (na nb nc : Int) (va : Option Addr) (vn vc : Nat) (q cap : Nat) (L : List Ste) (w : World) (H : Ste.Ps w q h L) :
    Calls Tryz.prog 99 #[.agg #[.int .i64 h.op, .int .i64 na, .int .i64 nb, .int .i64 nc, .int .i64 h.num, .slice va vn vc], .slice (some ⟨q, 0, none⟩) L.length cap] w (Ste.Ons w (Ste.tried h L)) := by
  by_cases hop : h.op = 9
  · exact specl10Try_9 h na nb nc va vn vc q cap L w H hop
  · exact specl10Try_no h na nb nc va vn vc q cap L w H hop

end Go.Proofs.YtbaanpgbfncdnaaGreat

namespace Go.Proofs.YtbaanpgbfncdnaaGreat
open Go.RowKit
set_option linter.unusedVariables false
set_option linter.unusedSimpArgs false

theorem Ste.Ons.ahead {w w1 w' : World} {o : Option Ste} {e : Ending} (hb : Below w.heap.size w w1) (h : Ste.Ons w1 o e w') : Ste.Ons w o e w' := by
  obtain ⟨v, h1, h2, h3, h4⟩ := h
  exact ⟨v, h1, h2, hb.trans (h3.mono hb.size), h4⟩
theorem Res.rowed {w : World} {B : Nat} {s : Value} {l : List M.Cl} (h : Res w B s l) (hne : l ≠ []) : ∃ b cap, s = .slice (some ⟨b, 0, none⟩) l.length cap ∧ l.length ≤ cap ∧ b < w.heap.size ∧ Row w b 0 l := by
  obtain ⟨_, ⟨_, h2⟩ | ⟨c, cc, h3, h4, h5, h6⟩⟩ := h
  · exact absurd h2 hne
  · exact ⟨c, cc, h3, h5, h6.lt, h6.row⟩

end Go.Proofs.YtbaanpgbfncdnaaGreat

namespace Go.Proofs.YtbaanpgbfncdnaaGreat
open Go.RowKit
set_option linter.unusedVariables false
set_option linter.unusedSimpArgs false

set_option maxRecDepth 100000 in
set_option maxHeartbeats 4000000 in
theorem specl1Truthy_any (v : List M.Cl) (b cap : Nat) (w : World) (hv : M.valueFault v = 0) (hrow : Row w b 0 v) (hb : b < w.heap.size) (hcap : v.length ≤ cap) :
    Calls Tryz.prog 128 #[.slice (some ⟨b, 0, none⟩) v.length cap] w fun e w' => e = .returned (.bool (truthy v)) ∧ Below w.heap.size w w' := by
  have fin := hide (truthy_ok hv)
  have hl := (len_of_valid hv).1
  have g := hrow 0 (by omega)
  have g0 := g.1
  simp only [Nat.zero_mul, Nat.add_zero] at g0
  clear g hrow hv
  generalize v.getD 0 M.zero = c at *
  go_enter Tryz.func128, Tryz.ntmps128
  go_wp2_with fail
  go_ret
  exact ⟨ret_bool (unhide fin).symm, Below.refl _ _⟩
set_option maxRecDepth 100000 in
set_option maxHeartbeats 4000000 in
theorem specl10Dead_1 (h : Hd) (na nb nc : Int) (va : Option Addr) (vn vc : Nat) (q cap : Nat) (L : List Ste) (w : World) (H : Ste.Ps w q h L) (hl : L.length = 1) :
    Calls Tryz.prog 98 #[.agg #[.int .i64 h.op, .int .i64 na, .int .i64 nb, .int .i64 nc, .int .i64 h.num, .slice va vn vc], .slice (some ⟨q, 0, none⟩) L.length cap] w (Ste.Ons w (Ste.dead h L)) := by
  obtain ⟨w0, hw0⟩ : ∃ w0, w0 = w.alloc (.cells #[.int .i64 h.op, .int .i64 na, .int .i64 nb, .int .i64 nc, .int .i64 h.num, .slice va vn vc] 47) := ⟨_, rfl⟩
  have B0 : Below w.heap.size w w0 := by rw [hw0]; exact (Below.refl _ _).alloc (Nat.le_refl _) _
  have O0 : Own w0 w.heap.size 47 [.int .i64 h.op, .int .i64 na, .int .i64 nb, .int .i64 nc, .int .i64 h.num, .slice va vn vc] := by rw [hw0]; exact ⟨_, heap_alloc_new _ _, rfl⟩
  have f0 : w0.cell? ⟨w.heap.size, 0, none⟩ = some (.int .i64 h.op) := O0.cell 0
  obtain ⟨w1, hw1⟩ : ∃ w1, w1 = w0.alloc (.cells #[.int .i64 17, .int .i64 0, .int .i64 0, .int .i64 0, .int .i64 0, .slice none 0 0] 47) := ⟨_, rfl⟩
  have B01 : Below w0.heap.size w0 w1 := by rw [hw1]; exact (Below.refl _ _).alloc (Nat.le_refl _) _
  have B1 : Below w.heap.size w w1 := B0.trans (B01.mono B0.size)
  have E1 := hide (show Ste.Pt w1 (.slice (some ⟨w0.heap.size, 0, none⟩) 1 1) (Ste.n0 ⟨17, 0, []⟩) from Ste.pt_leaf (h := ⟨17, 0, []⟩) (by rw [hw1]; exact ⟨_, heap_alloc_new _ _, rfl⟩) (resNil _ _))
  obtain ⟨ka, kn, kc, d0, hp0, hs0⟩ := (H.below B1).kid 0 (by omega)
  have hq1 := (H.below B1).lt
  have ok0 := H.hO _ (Ste.g_mem (i := 0) (by omega))
  have HE0 := hide (fun e => Ste.empty_eq (s := Ste.g L 0) ok0 e)
  have HV0 := hide (show (Ste.g L 0).hd.op = 2 → M.valueFault (Ste.g L 0).hd.val = 0 from fun e => ((Ste.ok_iff _).1 ok0).1.val (by rw [e]; rfl))
  have HT0 := hide (specl10Top_any _ _ w1 hp0 hs0)
  have HP00 := hide hp0
  have O01 := O0.below B01 O0.lt
  have hops : h.op = 8 ∨ h.op = 9 ∨ h.op = 10 := by
    have h1 := H.hF.kid
    rw [hl] at h1
    unfold Co.kids at h1
    (repeat' split at h1) <;> omega
  have HD := hide (show Ste.dead h L = if h.op = 10 then none else if (Ste.g L 0).hd.op = 17 then some (Ste.g L 0) else none by
    unfold Ste.dead
    rcases hops with e | e | e <;> simp [e])
  generalize Ste.g L 0 = s0 at *
  rw [hl]
  clear hp0 hs0 O0 H ok0
  go_enter Tryz.func98, Tryz.ntmps98
  go_upto_region 1 with fail
  rw [← hw0]
  clear hw0
  go_upto_region 2 with fail
  rw [← hw1]
  clear hw1
  go_wp2_with fail
  refine (unhide HT0).mono ?_
  rintro e w2 ⟨ta, tb, tc, xa, xn, xc, rfl, hr0, hb2⟩
  obtain ⟨w3, hw3⟩ : ∃ w3, w3 = w2.alloc (.cells #[.int .i64 s0.hd.op, .int .i64 ta, .int .i64 tb, .int .i64 tc, .int .i64 s0.hd.num, .slice xa xn xc] 47) := ⟨_, rfl⟩
  have B23 : Below w2.heap.size w2 w3 := by rw [hw3]; exact (Below.refl _ _).alloc (Nat.le_refl _) _
  have B13 : Below w1.heap.size w1 w3 := hb2.trans (B23.mono hb2.size)
  have OA := (show Own w3 w2.heap.size 47 [.int .i64 s0.hd.op, .int .i64 ta, .int .i64 tb, .int .i64 tc, .int .i64 s0.hd.num, .slice xa xn xc] by rw [hw3]; exact ⟨_, heap_alloc_new _ _, rfl⟩)
  have hr3 := hr0.below B23
  clear HT0 hr0
  go_upto_region 3 with fail
  rw [← hw3]
  clear hw3
  have f3 : w3.cell? ⟨w.heap.size, 0, none⟩ = some (.int .i64 h.op) := (O01.below B13 O01.lt).cell 0
  have a0 : w3.cell? ⟨w2.heap.size, 0, none⟩ = some (.int .i64 s0.hd.op) := OA.cell 0
  have B3 : Below w.heap.size w w3 := B1.trans (B13.mono B1.size)
  have E3 := hide ((unhide E1).below B13)
  clear OA O01 hr3 B23 hb2 B01 f0 d0 HP00 E1 B13 B1 B0
  generalize hx0 : s0.hd.op = x0 at *
  by_cases p1 : x0 = 17
  · have e0 := (unhide HE0) p1
    subst p1
    rcases hops with e | e | e
    all_goals
      rw [e] at f3
    · have FIN := hide (show Ste.dead h L = some s0 by rw [unhide HD, if_neg (by omega), if_pos rfl])
      clear HD e HE0 HV0
      go_wp2_with fail
      ((try simp only [Exit.inBlock, Exit.then]); refine bodyPost_ret (results_tmp2 rfl _ _ _) rfl ?_)
      rw [unhide FIN]; exact Ste.ons_yes (by rw [e0]; exact unhide E3) B3
    · have FIN := hide (show Ste.dead h L = some s0 by rw [unhide HD, if_neg (by omega), if_pos rfl])
      clear HD e HE0 HV0
      go_wp2_with fail
      ((try simp only [Exit.inBlock, Exit.then]); refine bodyPost_ret (results_tmp2 rfl _ _ _) rfl ?_)
      rw [unhide FIN]; exact Ste.ons_yes (by rw [e0]; exact unhide E3) B3
    · have FIN := hide (show Ste.dead h L = none by rw [unhide HD, if_pos e])
      clear HD e HE0 HV0
      go_wp2_with fail
      ((try simp only [Exit.inBlock, Exit.then]); refine bodyPost_ret (results_tmp2 rfl _ _ _) rfl ?_)
      rw [unhide FIN]; exact Ste.ons_no B3
  · have i1 : (x0 == 17) = false := beq_eq_false_iff_ne.2 p1
    have FIN := hide (show Ste.dead h L = none by rw [unhide HD]; split <;> simp [p1])
    clear HD HE0 HV0
    rcases hops with e | e | e
    all_goals
      rw [e] at f3
      clear e
      go_wp2_with fail
      ((try simp only [Exit.inBlock, Exit.then]); refine bodyPost_ret (results_tmp2 rfl _ _ _) rfl ?_)
      rw [unhide FIN]; exact Ste.ons_no B3

end Go.Proofs.YtbaanpgbfncdnaaGreat
