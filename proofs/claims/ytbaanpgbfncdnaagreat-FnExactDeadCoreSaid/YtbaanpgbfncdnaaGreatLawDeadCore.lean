/-
  Proved: at every argument impl.DeadCore answers as spec.DeadCore, every field, writes nothing into its argument, and its answer owns its memory (laws.FnExactDeadCore returns true). No condition.
-/
import Derived.Test.YtbaanpgbfncdnaaGreatQ36
import Derived.Test.YtbaanpgbfncdnaaGreatQ42
import Derived.Test.YtbaanpgbfncdnaaGreatQ43
import Derived.Test.YtbaanpgbfncdnaaGreatQ52
import Derived.ChangeOld
import Derived.OpenShut
import Derived.ProofKit
import Derived.ShutString
namespace Go.Proofs.YtbaanpgbfncdnaaGreat
open Go.ChangeShapes Go.WideShapes Go.ChangeAt Go.RowKit
set_option linter.unusedVariables false
set_option linter.unusedSimpArgs false

set_option maxRecDepth 100000 in
set_option maxHeartbeats 2000000 in
theorem lawDeadCore_walk (a : Option Addr) (cap : Nat) (l : List Co) (w : World) (hA : Co.Arg w a cap l) :
    Calls Tryz.prog 5 #[.slice a l.length cap] w fun e w' => e = .returned (.bool true) ∧ Below w.heap.size w w' := by
  have HA := hide hA
  clear hA
  go_enter Tryz.func5, Tryz.ntmps5
  go_wp2_with fail
  refine (Co.sz2_arg a cap l _ _ (unhide HA) (by decide) (by decide)).mono ?_
  rintro e w1 ⟨r, rfl, hr, hb1⟩
  rcases hr with hr | ⟨hr0, hn, htt⟩
  · go_wp2_with fail
    go_ret
    exact ⟨rfl, hb1⟩
  have hsz := hide (show ∀ i, i < l.length → (l.getD i Co.zero).val.length ≤ 1048576 from fun i hi => by have := Co.tot_one l i hi; omega)
  have hok := hide (unhide HA).2.2.1
  have A1 := hide ((unhide HA).below hb1)
  go_wp2_with fail
  refine (Co.to2_arg a cap l _ (unhide A1) hn (unhide hsz)).mono ?_
  rintro e w2 ⟨rfl, ho2, _, hb2⟩
  have B2 : Below w.heap.size w w2 := hb1.trans (hb2.mono hb1.size)
  have HSP := hide (specDeadCore_any w1.heap.size _ l _ ho2 hn (unhide hsz) (unhide hok))
  clear hb1 hb2 ho2 A1
  go_wp2_with fail
  refine (unhide HSP).mono ?_
  clear HSP
  rintro e w3 ⟨va, vn0, vc, cs, he3, RN3, hcs, hb3⟩
  have B3 : Below w.heap.size w w3 := B2.trans (hb3.mono B2.size)
  have HI := hide (show ∀ (wq : World) (b E : Nat), Co.LaidRow wq b E l → Calls Tryz.prog 20 #[.slice (some ⟨b, 0, none⟩) l.length l.length] wq fun e w' => ∃ v cs, e = .returned (.agg #[.int .i64 (Ste.pOut l [3]).1, .int .i64 (Ste.pOut l [3]).2.1, v]) ∧ cs.map Prod.fst = (Ste.pOut l [3]).2.2 ∧ Lm.Rn w' wq.heap.size v cs ∧ (Lp.bls cs).Nodup ∧ Below wq.heap.size wq w' from fun wq b E hrow => (implDeadCore_any b E l wq hrow hn (unhide hsz) (unhide hok)).mono (by
    rintro e w' ⟨B, v, cs, h1, h2, h3, h4, h5, h6⟩
    exact ⟨v, cs, h1, h2, (Lm.of_rw h3).mono h5, h4, h6⟩))
  have hol := Ste.pOut_len l 3
  generalize (Ste.pOut l [3]).2.2 = core at *
  generalize (Ste.pOut l [3]).2.1 = y at *
  generalize (Ste.pOut l [3]).1 = x at *
  subst he3
  have hlc : cs.length ≤ 900 := by rw [← hcs, List.length_map] at hol; exact hol
  obtain ⟨va', vc', hv⟩ := RN3.shape
  cases hv
  obtain ⟨w4, hw4⟩ : ∃ w4, w4 = w3.alloc (.cells #[.int .i64 x, .int .i64 y, .slice va cs.length vc] 26) := ⟨_, rfl⟩
  have b4 : Below w3.heap.size w3 w4 := by rw [hw4]; exact (Below.refl _ _).alloc (Nat.le_refl _) _
  have O4 : Own w4 w3.heap.size 26 [.int .i64 x, .int .i64 y, .slice va cs.length vc] := by rw [hw4]; exact ⟨_, heap_alloc_new _ _, rfl⟩
  have B4 : Below w.heap.size w w4 := B3.trans (b4.mono B3.size)
  have RN4 := RN3.below b4
  have HS := hide (fun (W : World) (hb : Below w4.heap.size w4 W) => RN4.below hb)
  have HO4 := hide (fun (W : World) (hb : Below w4.heap.size w4 W) => O4.below hb O4.lt)
  have HA4 := hide (fun (W : World) (hb : Below w4.heap.size w4 W) => (unhide HA).below (B4.trans (hb.mono B4.size)))
  have HCS := hide hcs
  clear B2 B3 hb3 b4 O4 RN4 RN3 hcs hok HA
  go_wp2_with fail
  rw [← hw4]
  clear hw4
  refine (Co.to2_arg a cap l _ ((unhide HA4) w4 (Below.refl _ _)) hn (unhide hsz)).mono ?_
  rintro e w5 ⟨rfl, ho5, _, D5⟩
  have hlt5 : w4.heap.size < w5.heap.size := ho5.lt
  have HI5 := hide ((unhide HI) w5 _ _ ho5)
  go_wp2_with fail
  refine (unhide HI5).mono ?_
  clear HI5
  rintro e w6 ⟨v1, cs1, he6, hcs1, RN6, hnd1, hb6⟩
  subst he6
  have D6 : Below w4.heap.size w4 w6 := D5.trans (hb6.mono D5.size)
  have ho6 := ho5.below hb6
  have hs56 : w5.heap.size ≤ w6.heap.size := hb6.size
  have hlc1 : cs1.length ≤ 900 := by rw [← hcs1, List.length_map] at hol; exact hol
  obtain ⟨va1, vc1, hv1⟩ := RN6.shape
  subst hv1
  have HCS1 := hide hcs1
  have HND1 := hide hnd1
  have HL1 := hide RN6.len
  obtain ⟨w7, hw7⟩ : ∃ w7, w7 = w6.alloc (.cells #[.int .i64 x, .int .i64 y, .slice va1 cs1.length vc1] 26) := ⟨_, rfl⟩
  have b7 : Below w6.heap.size w6 w7 := by rw [hw7]; exact (Below.refl _ _).alloc (Nat.le_refl _) _
  have D7 : Below w4.heap.size w4 w7 := D6.trans (b7.mono D6.size)
  have O7 : Own w7 w6.heap.size 26 [.int .i64 x, .int .i64 y, .slice va1 cs1.length vc1] := by rw [hw7]; exact ⟨_, heap_alloc_new _ _, rfl⟩
  have ho7 := ho6.below b7
  have RN7 := RN6.below b7
  have HMK := hide (fun (W : World) (h : Lm.Rn W w5.heap.size (.slice va1 cs1.length vc1) cs1) (hs : w5.heap.size ≤ W.heap.size) => markPassResult_rn x y _ w5.heap.size cs1 1 W h hs (unhide HND1) (by omega) (by decide) (by decide))
  have HHD := hide (fun (W : World) (h : Lm.Rn W w5.heap.size (.slice va1 cs1.length vc1) (Lm.mkCs cs1 1)) => heldPassResult_rn x y _ w5.heap.size cs1 1 W h (by omega) (unhide HL1) (by decide) (by decide))
  have hq0 := (Lm.qk_bounds cs1 1 (by decide) (unhide HL1) cs1.length (Nat.le_refl _)).1
  generalize Lm.qk cs1 1 cs1.length = Q at *
  have hq1 : ¬ Q < 0 := by omega
  have hqq : (Q != Q) = false := by simp
  clear ho5 ho6 hcs1 hnd1 hb6 D5 D6 RN6 HND1 HL1 b7
  have p0 := ((unhide HO4) w7 D7).cell 0
  have p1 := ((unhide HO4) w7 D7).cell 1
  have p2 := ((unhide HO4) w7 D7).cell 2
  simp only [List.getElem?_cons_zero, List.getElem?_cons_succ] at p0 p1 p2
  rw [hw7] at p0 p1 p2
  go_wp2_with fail
  rw [← hw7]
  clear hw7
  clear p0 p1 p2
  refine (eqPassResult_rn x y _ _ w5.heap.size 0 cs1 cs w7 RN7 ((unhide HS) w7 D7) (by rw [unhide HCS1, unhide HCS]) (by omega)).mono ?_
  rintro e w8 ⟨rfl, hb8⟩
  have D8 : Below w4.heap.size w4 w8 := D7.trans (hb8.mono D7.size)
  have ho8 := ho7.below hb8
  have O8 := O7.below hb8 O7.lt
  have RN8 := RN7.below hb8
  have hs68 : w6.heap.size ≤ w8.heap.size := by have := O8.lt; omega
  clear hb8 ho7 O7 RN7 D7
  go_wp2_with fail
  refine (Co.to2_arg a cap l _ ((unhide HA4) w8 D8) hn (unhide hsz)).mono ?_
  rintro e w9 ⟨rfl, ho9, _, hb9⟩
  have D9 : Below w4.heap.size w4 w9 := D8.trans (hb9.mono D8.size)
  have hp9 := ho8.below hb9
  have O9 := O8.below hb9 O8.lt
  have RN9 := RN8.below hb9
  clear hb9 ho8 O8 RN8 D8
  go_wp2_with fail
  refine (Co.eqS_same w4.heap.size w8.heap.size l _ hp9.row hp9.lt ho9.row ho9.lt hn (unhide hsz)).mono ?_
  rintro e w10 ⟨rfl, hb10⟩
  have D10 : Below w4.heap.size w4 w10 := D9.trans (hb10.mono D9.size)
  have hp10 := hp9.below hb10
  have O10 := O9.below hb10 O9.lt
  have RN10 := RN9.below hb10
  clear hb10 hp9 ho9 O9 RN9 D9
  have HMN := hide (Co.mark_arg w4.heap.size w5.heap.size l w10 hp10 hlt5 hn htt)
  go_wp2_with fail
  refine (unhide HMN).mono ?_
  clear HMN
  rintro e w11 ⟨r9, rfl, hr9, hbl, hkt⟩
  have D11 : Below w4.heap.size w4 w11 := D10.trans hbl
  have O11 : Own w11 w6.heap.size 26 [.int .i64 x, .int .i64 y, .slice va1 cs1.length vc1] := by
    have hl := O10.lt
    obtain ⟨c, q1, q2⟩ := O10
    exact ⟨c, (hkt _ hs56 hl).trans q1, q2⟩
  have RN11 : Lm.Rn w11 w5.heap.size (.slice va1 cs1.length vc1) cs1 := RN10.keep (fun k c t h1 _ hge => hkt k hge (Array.getElem?_eq_some_iff.1 h1).1)
  clear hbl hkt O10 RN10 D10 hp10
  have hk : ¬ r9 < 0 := by omega
  have o0 := O11.cell 0
  have o1 := O11.cell 1
  have o2 := O11.cell 2
  simp only [List.getElem?_cons_zero, List.getElem?_cons_succ] at o0 o1 o2
  have p0 := ((unhide HO4) w11 D11).cell 0
  have p1 := ((unhide HO4) w11 D11).cell 1
  have p2 := ((unhide HO4) w11 D11).cell 2
  simp only [List.getElem?_cons_zero, List.getElem?_cons_succ] at p0 p1 p2
  go_wp2_with fail
  clear p0 p1 p2
  clear o0 o1 o2
  refine (eqPassResult_rn x y _ _ w5.heap.size 0 cs1 cs w11 RN11 ((unhide HS) w11 D11) (by rw [unhide HCS1, unhide HCS]) (by omega)).mono ?_
  rintro e w12 ⟨rfl, hb12⟩
  have D12 : Below w4.heap.size w4 w12 := D11.trans (hb12.mono D11.size)
  have O12 := O11.below hb12 O11.lt
  have RN12 := RN11.below hb12
  have hs12 : w5.heap.size ≤ w12.heap.size := by have := O12.lt; omega
  clear hb12 O11 RN11 D11
  have o0 := O12.cell 0
  have o1 := O12.cell 1
  have o2 := O12.cell 2
  simp only [List.getElem?_cons_zero, List.getElem?_cons_succ] at o0 o1 o2
  go_wp2_with fail
  clear o0 o1 o2
  refine ((unhide HMK) w12 RN12 hs12).mono ?_
  rintro e w13 ⟨rfl, RN13, hb13, hx13⟩
  have D13 : Below w4.heap.size w4 w13 := D12.trans (hb13.mono (Nat.le_of_lt hlt5))
  have O13 := hx13.own O12 (by decide) (by decide)
  clear hb13 hx13 O12 RN12 D12 HMK
  have o0 := O13.cell 0
  have o1 := O13.cell 1
  have o2 := O13.cell 2
  simp only [List.getElem?_cons_zero, List.getElem?_cons_succ] at o0 o1 o2
  go_wp2_with fail
  clear o0 o1 o2
  refine ((unhide HHD) w13 RN13).mono ?_
  rintro e w14 ⟨rfl, hb14⟩
  have D14 : Below w4.heap.size w4 w14 := D13.trans (hb14.mono D13.size)
  have O14 := O13.below hb14 O13.lt
  have RN14 := RN13.below hb14
  clear hb14 O13 RN13 D13
  go_wp2_with fail
  refine (Co.to2_arg a cap l _ ((unhide HA4) w14 D14) hn (unhide hsz)).mono ?_
  rintro e w15 ⟨rfl, ho15, _, hb15⟩
  have D15 : Below w4.heap.size w4 w15 := D14.trans (hb15.mono D14.size)
  have O15 := O14.below hb15 O14.lt
  have RN15 := RN14.below hb15
  have HI15 := hide ((unhide HI) w15 _ _ ho15)
  clear hb15 O14 RN14 D14 ho15 HI
  go_wp2_with fail
  refine (unhide HI15).mono ?_
  clear HI15
  rintro e w16 ⟨v2, cs2, he16, hcs2, RM16, hnd2, hb16⟩
  subst he16
  have D16 : Below w4.heap.size w4 w16 := D15.trans (hb16.mono D15.size)
  have O16 := O15.below hb16 O15.lt
  have RN16 := RN15.below hb16
  have hlc2 : cs2.length ≤ 900 := by rw [← hcs2, List.length_map] at hol; exact hol
  obtain ⟨va2, vc2, hv2⟩ := RM16.shape
  subst hv2
  have HCS2 := hide hcs2
  obtain ⟨w17, hw17⟩ : ∃ w17, w17 = w16.alloc (.cells #[.int .i64 x, .int .i64 y, .slice va2 cs2.length vc2] 26) := ⟨_, rfl⟩
  have b17 : Below w16.heap.size w16 w17 := by rw [hw17]; exact (Below.refl _ _).alloc (Nat.le_refl _) _
  have D17 : Below w4.heap.size w4 w17 := D16.trans (b17.mono D16.size)
  have O17 := O16.below b17 O16.lt
  have RN17 := RN16.below b17
  have RM17 := RM16.below b17
  clear hcs2 hnd2 hb16 O15 RN15 D15 O16 RN16 RM16 D16 b17
  have p0 := ((unhide HO4) w17 D17).cell 0
  have p1 := ((unhide HO4) w17 D17).cell 1
  have p2 := ((unhide HO4) w17 D17).cell 2
  simp only [List.getElem?_cons_zero, List.getElem?_cons_succ] at p0 p1 p2
  rw [hw17] at p0 p1 p2
  go_wp2_with fail
  rw [← hw17]
  clear hw17
  clear p0 p1 p2
  refine (eqPassResult_rn x y _ _ w15.heap.size 0 cs2 cs w17 RM17 ((unhide HS) w17 D17) (by rw [unhide HCS2, unhide HCS]) (by omega)).mono ?_
  rintro e w18 ⟨rfl, hb18⟩
  have D18 : Below w4.heap.size w4 w18 := D17.trans (hb18.mono D17.size)
  have O18 := O17.below hb18 O17.lt
  have RN18 := RN17.below hb18
  clear hb18 O17 RN17 RM17 D17
  have o0 := O18.cell 0
  have o1 := O18.cell 1
  have o2 := O18.cell 2
  simp only [List.getElem?_cons_zero, List.getElem?_cons_succ] at o0 o1 o2
  go_wp2_with fail
  clear o0 o1 o2
  refine ((unhide HHD) w18 RN18).mono ?_
  rintro e w19 ⟨rfl, hb19⟩
  have D19 : Below w4.heap.size w4 w19 := D18.trans (hb19.mono D18.size)
  clear hb19 O18 RN18 D18
  go_wp2_with fail
  go_ret
  exact ⟨rfl, B4.trans (D19.mono B4.size)⟩

namespace lawDeadCore
theorem own : ownKnob Tryz.prog.godebug = none := by kernel_rfl
theorem laidOut : laidOutB Tryz.prog = true := by kernel_rfl

set_option maxRecDepth 100000 in
theorem lifted (os : Os) (started : os.Started) (H : Type) (enc : TypeId × Value → H) :
    ReturnsInHanded {} Tryz.checked os 5 .any (Rows.fnExactDeadCoreSpec.pre6 enc Tryz.prog Tryz.f5 Rows.fnExactDeadCoreRow.domain false) (Rows.fnExactDeadCoreSpec.post enc Tryz.prog Tryz.f5 false true false false) := by
  refine returnsInHanded_of_change (C := Tryz.checked) own started (by kernel_rfl) Tryz.func5
    (ChangeSpec.witness6 (enc := enc) (C := Tryz.checked) false ⟨#[], #[.slice none 0 0], []⟩ 8 (by kernel_rfl) (by kernel_rfl) (by kernel_rfl) (by kernel_rfl)) ?_
  intro W base args ds gs before hval0 hW hcnd _
  have hval : ∀ (j : Nat) t v, Tryz.f5.params[j]? = some t → args[j]? = some v → Value.okWide Tryz.prog W .any base t v := hval0
  have hW' := hW
  obtain ⟨p, q, hA0, hV, rfl, hfz, hnd⟩ := hW
  have hA : DataW.TrodAll enc Tryz.prog W 0 (fun _ => true) true Tryz.f5.params.toList args.toList ds p := hA0
  rw [Tryz.params5] at hA hval
  obtain ⟨v0, vs0, d0, ds0, p0, q0, hargs, rfl, rfl, h0, r0⟩ := trodAll_cons hA
  obtain ⟨rfl, rfl, rfl⟩ := trodAll_nil r0
  obtain rfl : args = #[v0] := by cases args; simp_all
  obtain ⟨rfl, rfl⟩ := trodVars_none hV
  obtain ⟨a0, len0, cap0, rfl⟩ := okWide_slice Tryz.underlying22 (hval 0 22 v0 rfl rfl)
  have k0 := h0
  have lt0 : ∀ x ∈ p0, x.block < W.heap.size := by obtain ⟨m, hm⟩ := k0; exact DataW.trod_lt m _ _ _ hm
  obtain ⟨l0, hl0, w0⟩ : ∃ l : List Co, l.length = len0 ∧ Co.Arg W a0 cap0 l := by
    obtain ⟨fuel, hf⟩ := h0
    exact Co.open_arg hf
  subst hl0
  clear hA0 hval0
  refine (lawDeadCore_walk a0 cap0 l0 W w0).mono fun e W' ⟨he, bel⟩ => ?_
  subst he
  exact ⟨_, rfl, _, _, _, [], _, [], hW', trodAll_mk1 (shut_bool Tryz.underlying4 _), (trodAll_cons_mk (Below.trod laidOut (by kernel_rfl) (of_decide_eq_true (by kernel_rfl)) k0 bel lt0) trodAll_mk0), rfl, bel.frame _, fun h => by cases h⟩

theorem over : Rows.fnExactDeadCoreRow.holds Tryz.pinned (OpenSpec.ofChange Rows.fnExactDeadCoreSpec) :=
  OpenClaim.holds_of_wide 5 Tryz.f5 rfl rfl rfl rfl rfl rfl rfl ⟨rfl, rfl, rfl, rfl, rfl⟩ rfl rfl rfl rfl rfl (by kernel_rfl) Tryz.func5 (by kernel_rfl)
    (of_decide_eq_true (by kernel_rfl)) (by unfold Func.isWrapper; first | (rw [if_pos (by decide +kernel)]; kernel_rfl) | (rw [if_neg (by decide +kernel)]; exact ⟨rfl, rfl⟩))
    (fun os started H enc _ => lifted os started H enc)
end lawDeadCore

/-- The statement. -/
theorem lawDeadCore_holds : Rows.FnExactDeadCoreSaid := lawDeadCore.over
#print axioms lawDeadCore_holds

end Go.Proofs.YtbaanpgbfncdnaaGreat
