/-
  Proved: whatever bytes it is given, laws.FnStreams returns true: a value is put together again from its events. The library's listed tables are tied.
-/
import Derived.Test.YtcglddahphkcpaaGreatDoorU34
import Derived.Test.YtcglddahphkcpaaGreatDoorU39
import Derived.Test.YtcglddahphkcpaaGreatDoorU41
import Derived.Test.YtcglddahphkcpaaGreatDoorU49
import Derived.ChangeOld
import Derived.Deep.RegionHeld3
import Derived.LaidMore
import Derived.Lib.AppendIntMem
import Derived.Lib.LaidTab
import Derived.Lib.SmallJoins
import Derived.MakeChecks
import Derived.OpenShut
import Derived.ProofKit
import Derived.SevenTiedAt
import Derived.ShutString
import Derived.Stop.Joined
import Derived.Stop.LaidErr
import Derived.Test.YtcglddahphkcpaaGreatDoorCards
import Derived.Test.YtcglddahphkcpaaGreatDoorTie
namespace Go.Proofs.YtcglddahphkcpaaGreatDoor
open Go.ChangeShapes Go.WideShapes Go.ChangeAt Go.RowKit
set_option linter.unusedVariables false
set_option linter.unusedSimpArgs false
namespace Fs
theorem fldP (x : Int) (a : Option Addr) (n c : Nat) (w : World) : (Instr.field 41 (.agg #[.int .i64 x, .slice a n c]) 0).run Tryz.prog w = .ok (.int .i64 x) w := by kernel_rfl
theorem fldR (x y : Int) (a : Option Addr) (n c : Nat) (w : World) : (Instr.field 26 (.agg #[.int .i64 x, .int .i64 y, .slice a n c]) 0).run Tryz.prog w = .ok (.int .i64 x) w := by kernel_rfl
theorem small {E : List (List M.Cl)} (h1 : E.length ≤ 200) (h2 : ∀ i, i < E.length → M.valueFault (E.getD i []) = 0) : E.length ≤ 1048576 ∧ tot E E.length ≤ 1048576 ∧ OkS E := by
  have := tot_small E E.length (Nat.le_refl _) (fun j hj => (fault_len (h2 j hj)).2)
  exact ⟨by omega, by omega, fun i hi => Pth.oks (h2 i hi)⟩
end Fs
set_option maxRecDepth 100000 in
set_option maxHeartbeats 4000000 in
theorem drawStream_any (a : Option Addr) (len cap : Nat) (w : World) (hB : Byts w a len cap) (hl : len ≤ 1048600) : Calls Tryz.prog 19 #[.slice a len cap] w fun e w' => ∃ s l, e = .returned s ∧ Dv.Got w' w.heap.size s l ∧ Below w.heap.size w w' := by
  have HS := hide (l1Source_any a len cap w hB.2 hB.1 hl)
  clear hB
  go_enter Tryz.func19, Tryz.ntmps19
  go_wp2_with fail
  refine (unhide HS).mono ?_
  rintro e w1 ⟨rfl, S1, B1⟩
  go_wp2_with fail
  refine (l1Bent_any w.heap.size len cap 0 a w1 S1 (by omega)).mono ?_
  rintro e w2 ⟨s, l, at2, rfl, hr, hl3, hok, S2, _, T2, g, gc, rfl⟩
  have BF : Below w.heap.size w w2 := B1.trans (T2.below B1.size (Nat.le_refl _))
  have HG := hide (show Dv.Got w2 w.heap.size (.slice (some ⟨g, 0, none⟩) l.length gc) l from ⟨⟨g, gc, rfl⟩, hr.mono B1.size, hl3, hok⟩)
  clear hr hok S1 S2 T2
  go_wp2_with fail
  go_ret
  exact ⟨_, l, rfl, unhide HG, BF⟩

set_option maxRecDepth 100000 in
set_option maxHeartbeats 8000000 in
theorem lawStreams_walk (a : Option Addr) (len cap : Nat) (w : World) (hB : Byts w a len cap) (htab : Lib.TabIs Tryz.prog w "internal/strconv.uint64pow10" .u64 Lib.pow10Tab) :
    Calls Tryz.prog 5 #[.slice a len cap] w fun e w' => e = .returned (.bool true) ∧ Below w.heap.size w w' := by
  by_cases hbig : 1048576 < len
  · go_enter Tryz.func5, Tryz.ntmps5
    go_wp2_with fail
    refine (lwBig_any a len cap _).mono ?_
    rintro e w1 ⟨rfl, hw1⟩
    rw [hw1, decide_eq_true hbig]
    clear hw1
    go_wp2_with fail
    go_ret
    exact ⟨rfl, Below.refl _ _⟩
  have HD := hide (drawStream_any a len cap w hB (by omega))
  have HT := hide (Lib.tabBelow_of_tabIs htab)
  clear hB htab
  go_enter Tryz.func5, Tryz.ntmps5
  go_wp2_with fail
  refine (lwBig_any a len cap _).mono ?_
  rintro e w1 ⟨rfl, hw1⟩
  rw [hw1, decide_eq_false hbig]
  clear hw1
  go_wp2_with fail
  refine (unhide HD).mono ?_
  rintro e V0 ⟨s1, l, rfl, G1, BW⟩
  have FIN := hide (fun (V : World) (hV : Below V0.heap.size V0 V) => BW.trans (hV.mono BW.size))
  obtain ⟨g1, c1, rfl, hg1, hc1, hrow1⟩ := G1.at
  have hok := G1.2.2.2
  have hl3 := G1.2.2.1
  have HSO := hide (Al.implStreamOf_any l g1 0 c1 V0 hrow1 hg1 (by omega) hc1 hok)
  have HRW := hide (fun (V : World) (hV : Below V0.heap.size V0 V) => (show Row V g1 0 l ∧ g1 < V.heap.size from ⟨hrow1.below hV hg1, Nat.lt_of_lt_of_le hg1 hV.size⟩))
  have HTB := hide (fun (V : World) (hV : Below V0.heap.size V0 V) => (show Lib.TabBelow Tryz.prog V.heap.size V "internal/strconv.uint64pow10" .u64 Lib.pow10Tab from fun w' hb' => (unhide HT) w' (((unhide FIN) V hV).trans (hb'.mono ((unhide FIN) V hV).size))))
  clear HD BW G1 HT
  by_cases hv : M.valueFault l = 0
  · obtain ⟨q1, q2, q3, q4⟩ := Fs.stream_again hv
    have hfine := Al.stream_fine hv
    obtain ⟨s1, s2, s3⟩ := Fs.small hfine.1 hfine.2
    rw [Al.stream_ok hv] at HSO
    have hcl := Sev.cut_le 0 (Al.evs l.length l [])
    have hcl2 : (Sev.cutL 0 (Al.evs l.length l [])).length ≤ (Al.evs l.length l []).length := hcl
    have hl1 := Pth.lens hv
    have HOK := hide (Pth.oks hv)
    have HSAME := hide (show sameOut l l = true by rw [Od.same_eq hv hv, Od.out_self hv]; rfl)
    clear hfine hcl
    generalize hC : Sev.cutL 0 (Al.evs l.length l []) = C at *
    clear hC
    generalize hE : Al.evs l.length l [] = E at *
    clear hE
    have HFS := hide (fun V (hV : Below V0.heap.size V0 V) a cap (h : LV V a E) => (show Calls Tryz.prog 10 #[.slice a E.length cap] V (Sev.AnsR V (0, 0, l)) by rw [← q3]; exact Sev.implFromV_any a cap E V h s1 s2 s3 ((unhide HTB) V hV)))
    have HCU := hide (fun V a cap (h : LV V a E) => (show Calls Tryz.prog 22 #[.slice a E.length cap, .int .i64 0] V (AnsR V (0, C)) by rw [← q4]; exact Sev.implCutV_any a cap E 0 V h s1 s2 s3))
    have HSF := hide (fun V a cap (h : LV V a E) => (show Calls Tryz.prog 23 #[.slice a E.length cap] V (Sev.AnsR V (0, 0, [])) by rw [← q2]; exact Sev.implStreamV_any a cap E V h s1 s2 s3))
    clear q2 q3 q4 s1 s2 s3 HTB hrow1 hok hv
    go_wp2_with fail
    refine (unhide HSO).mono ?_
    rintro e V1 ⟨s5, rfl, hp5, hb5⟩
    obtain ⟨a5, c5, rfl, hc5, hlv5⟩ := Sev.pr_lv hp5
    simp only at hc5 hlv5 ⊢
    obtain ⟨W2, hW2⟩ : ∃ W2, W2 = V1.alloc (.cells #[.int .i64 0, .slice a5 E.length c5] 41) := ⟨_, rfl⟩
    have b12 : Below V1.heap.size V1 W2 := by rw [hW2]; exact (Below.refl _ _).alloc (Nat.le_refl _) _
    have O2 : Own W2 V1.heap.size 41 [.int .i64 0, .slice a5 E.length c5] := by rw [hW2]; exact ⟨_, heap_alloc_new _ _, rfl⟩
    go_upto_region 5 with fail
    rw [← hW2]
    clear hW2
    have B2 : Below V0.heap.size V0 W2 := hb5.trans (b12.mono hb5.size)
    have HLV := hide (fun V (hV : Below W2.heap.size W2 V) => (hlv5.below b12).below hV)
    have HO2 := hide O2
    clear hp5 hlv5 hb5 b12 HSO
    have p0 := O2.cell 0
    have p1 := O2.cell 1
    simp only [List.getElem?_cons_zero, List.getElem?_cons_succ] at p0 p1
    clear O2
    have HF2 := hide ((unhide HFS) W2 B2 a5 c5 ((unhide HLV) W2 (Below.refl _ _)))
    go_wp2_with fail
    refine (unhide HF2).mono ?_
    rintro e V3 ⟨s6, rfl, hr6, hb6⟩
    obtain ⟨b6, c6, rfl, hc6, hl6, hlt6, hrw6⟩ := hr6.rowedQ (by intro e; rw [show l = [] from e] at hl1; simp at hl1)
    simp only
    clear HF2 HFS p0 p1 hr6
    obtain ⟨W4, hW4⟩ : ∃ W4, W4 = V3.alloc (.cells #[.int .i64 0, .int .i64 0, .slice (some ⟨b6, 0, none⟩) l.length c6] 26) := ⟨_, rfl⟩
    have b34 : Below V3.heap.size V3 W4 := by rw [hW4]; exact (Below.refl _ _).alloc (Nat.le_refl _) _
    have O4 : Own W4 V3.heap.size 26 [.int .i64 0, .int .i64 0, .slice (some ⟨b6, 0, none⟩) l.length c6] := by rw [hW4]; exact ⟨_, heap_alloc_new _ _, rfl⟩
    go_upto_region 8 with fail
    rw [← hW4]
    clear hW4
    have b24 : Below W2.heap.size W2 W4 := hb6.trans (b34.mono hb6.size)
    have HO4 := hide O4
    have HR4 := hide (fun V (hV : Below W4.heap.size W4 V) => (show Row V b6 0 l ∧ b6 < V.heap.size from ⟨(hrw6.below b34 hlt6).below hV (Nat.lt_of_lt_of_le hlt6 b34.size), Nat.lt_of_lt_of_le (Nat.lt_of_lt_of_le hlt6 b34.size) hV.size⟩))
    have O2 := (unhide HO2).below b24 (unhide HO2).lt
    have p0 := O2.cell 0
    have p1 := O2.cell 1
    simp only [List.getElem?_cons_zero, List.getElem?_cons_succ] at p0 p1
    have HF4 := hide ((unhide HCU) W4 a5 c5 ((unhide HLV) W4 b24))
    have HB24 := hide b24
    have hs24 := b24.size
    clear O2 O4 hrw6 hlt6 b34 hb6 HCU b24
    go_wp2_with fail
    refine (unhide HF4).mono ?_
    rintro e V5 ⟨s8, rfl, hr8, hb8⟩
    obtain ⟨a8, c8, rfl, hc8, _⟩ := Sev.pr_lv hr8
    simp only
    clear HF4 p0 p1 hr8
    obtain ⟨W6, hW6⟩ : ∃ W6, W6 = V5.alloc (.cells #[.int .i64 0, .slice a8 C.length c8] 41) := ⟨_, rfl⟩
    have b56 : Below V5.heap.size V5 W6 := by rw [hW6]; exact (Below.refl _ _).alloc (Nat.le_refl _) _
    have O6 : Own W6 V5.heap.size 41 [.int .i64 0, .slice a8 C.length c8] := by rw [hW6]; exact ⟨_, heap_alloc_new _ _, rfl⟩
    go_upto_region 9 with fail
    rw [← hW6]
    clear hW6
    have b46 : Below W4.heap.size W4 W6 := hb8.trans (b56.mono hb8.size)
    have b26 : Below W2.heap.size W2 W6 := (unhide HB24).trans (b46.mono hs24)
    have HO6 := hide O6
    have O2 := (unhide HO2).below b26 (unhide HO2).lt
    have p0 := O2.cell 0
    have p1 := O2.cell 1
    simp only [List.getElem?_cons_zero, List.getElem?_cons_succ] at p0 p1
    have HF6 := hide ((unhide HSF) W6 a5 c5 ((unhide HLV) W6 b26))
    have eE : decide ((0 : Int) < (E.length : Int)) = true := decide_eq_true (by omega)
    have eE2 : (0 : Int) < (E.length : Int) := by omega
    have HB26 := hide b26
    have hs26 := b26.size
    have HB46 := hide b46
    have hs46 := b46.size
    clear O2 O6 b56 hb8 b26 b46 HSF HLV
    go_wp2_with fail
    refine (unhide HF6).mono ?_
    rintro e V7 ⟨s9, rfl, hr9, hb9⟩
    obtain ⟨a9, n9, c9, rfl⟩ := hr9.shape
    simp only
    have hf9 := fun W => Fs.fldR 0 0 a9 n9 c9 W
    have b27 : Below W2.heap.size W2 V7 := (unhide HB26).trans (hb9.mono hs26)
    have b47 : Below W4.heap.size W4 V7 := (unhide HB46).trans (hb9.mono hs46)
    have O2 := (unhide HO2).below b27 (unhide HO2).lt
    have O4 := (unhide HO4).below b47 (unhide HO4).lt
    have O6 := (unhide HO6).below hb9 (unhide HO6).lt
    clear p0 p1
    have p0 := O2.cell 0
    have p1 := O2.cell 1
    simp only [List.getElem?_cons_zero, List.getElem?_cons_succ] at p0 p1
    have t0 := O4.cell 0
    have t1 := O4.cell 1
    have t2 := O4.cell 2
    simp only [List.getElem?_cons_zero, List.getElem?_cons_succ] at t0 t1 t2
    have u0 := O6.cell 0
    have u1 := O6.cell 1
    simp only [List.getElem?_cons_zero, List.getElem?_cons_succ] at u0 u1
    have B7 : Below V0.heap.size V0 V7 := B2.trans (b27.mono B2.size)
    obtain ⟨hra, hrb⟩ := (unhide HR4) V7 b47
    obtain ⟨hla, hlb⟩ := (unhide HRW) V7 B7
    have HSM := hide (implSame_any l l b6 0 c6 g1 0 c1 V7 hra hrb (by omega) hc6 (unhide HOK) hla hlb (by omega) hc1 (unhide HOK))
    rw [unhide HSAME] at HSM
    have HB27 := hide b27
    have HB47 := hide b47
    have HB67 := hide hb9
    clear hr9 hb9 HF6 hra hla hrb hlb b47 b27 O2 O4 O6 HR4 HRW HSAME
    have eL : ((C.length : Int) ≤ (E.length : Int)) := by omega
    have eL2 : decide ((C.length : Int) ≤ (E.length : Int)) = true := decide_eq_true eL
    go_wp2_with fail
    refine (unhide HSM).mono ?_
    rintro e V8 ⟨rfl, hb10⟩
    have b28 : Below W2.heap.size W2 V8 := (unhide HB27).trans (hb10.mono (unhide HB27).size)
    have b48 : Below W4.heap.size W4 V8 := (unhide HB47).trans (hb10.mono (unhide HB47).size)
    have b68 : Below W6.heap.size W6 V8 := (unhide HB67).trans (hb10.mono (unhide HB67).size)
    have O2 := (unhide HO2).below b28 (unhide HO2).lt
    have O4 := (unhide HO4).below b48 (unhide HO4).lt
    have O6 := (unhide HO6).below b68 (unhide HO6).lt
    clear p0 p1 t0 t1 t2 u0 u1
    have p0 := O2.cell 0
    have p1 := O2.cell 1
    simp only [List.getElem?_cons_zero, List.getElem?_cons_succ] at p0 p1
    have t0 := O4.cell 0
    have t1 := O4.cell 1
    have t2 := O4.cell 2
    simp only [List.getElem?_cons_zero, List.getElem?_cons_succ] at t0 t1 t2
    have u0 := O6.cell 0
    have u1 := O6.cell 1
    simp only [List.getElem?_cons_zero, List.getElem?_cons_succ] at u0 u1
    clear O2 O4 O6 HSM hb10
    go_wp2_with fail
    go_ret
    exact ⟨ret_bool (by simp), unhide FIN _ (B2.trans (b28.mono B2.size))⟩
  · have hbad := Al.stream_bad hv
    obtain ⟨q, hq⟩ : ∃ q, q = M.valueFault l := ⟨_, rfl⟩
    rw [← hq] at hv hbad
    have g0 : (q != 0) = true := by simpa using hv
    rw [hbad] at HSO
    have HSS := hide (fun V (hV : Below V0.heap.size V0 V) => (show Calls Tryz.prog 21 #[.slice (some ⟨g1, 0, none⟩) l.length c1] V (AnsS V (q, [])) by rw [← hbad]; exact Al.specStreamOf_any l g1 0 c1 V ((unhide HRW) V hV).1 ((unhide HRW) V hV).2 (by omega) hc1 hok))
    go_wp2_with fail
    refine (unhide HSO).mono ?_
    rintro e V1 ⟨s3, rfl, hr2, hb2⟩
    obtain ⟨a2, n2, c3, rfl⟩ := hr2.ps.shape
    simp only
    obtain ⟨w3, hw3⟩ : ∃ w3, w3 = V1.alloc (.cells #[.int .i64 q, .slice a2 n2 c3] 41) := ⟨_, rfl⟩
    have O3 : Own w3 V1.heap.size 41 [.int .i64 q, .slice a2 n2 c3] := by rw [hw3]; exact ⟨_, heap_alloc_new _ _, rfl⟩
    have B3 : Below V0.heap.size V0 w3 := by rw [hw3]; exact hb2.alloc hb2.size _
    have c0 := O3.cell 0
    simp only [List.getElem?_cons_zero] at c0
    clear hr2 hb2 HSO hbad hq
    go_upto_region 5 with fail
    rw [← hw3]
    clear hw3
    go_wp2_with fail
    go_region_with (go_at_call 21; refine ((unhide HSS) _ B3.drew).mono ?_; rintro e w4 ⟨s4, rfl, hr4, hb4⟩; obtain ⟨a4, n4, c4, rfl⟩ := hr4.shape; simp only; have hf0 := fun W => Fs.fldP q a4 n4 c4 W; have cc := ((show Own w3.drew V1.heap.size 41 [.int .i64 q, .slice a2 n2 c3] from O3).below hb4 O3.lt).cell 0; simp only [List.getElem?_cons_zero] at cc)
    all_goals
      go_wp2_with fail
      go_ret
      exact ⟨ret_bool (by simp), unhide FIN _ (B3.drew.trans (hb4.mono B3.size))⟩

namespace lawStreams
theorem own : ownKnob Tryz.prog.godebug = none := by kernel_rfl
theorem laidOut : laidOutB Tryz.prog = true := by kernel_rfl
theorem gTab : Tryz.prog.globalNamed "internal/strconv.uint64pow10" = some 2 := by kernel_rfl
theorem gTabType : (Tryz.prog.globals[2]?).map (·.type) = some 255 := by kernel_rfl
theorem tabData_is : (Rows.laid_internal_strconv_uint64pow10 : DataW Unit) = Lib.tabData .u64 Lib.pow10Tab := by kernel_rfl
/-- What the condition gives the walk: the table. -/
theorem of_laid {W : World} (h : laidMetH Tryz.prog Rows.fnStreamsRow.laid W) : Lib.TabIs Tryz.prog W "internal/strconv.uint64pow10" .u64 Lib.pow10Tab := by
  rw [MakeChecks.laidMetH_plain _ _ _ (by kernel_rfl)] at h
  have h3 : laidMet Tryz.prog [("internal/strconv.uint64pow10", Lib.tabData .u64 Lib.pow10Tab)] W := by rw [← tabData_is]; exact (laidMet.tail (laidMet.tail h))
  exact Lib.tabIs_of_head gTab gTabType Tryz.underlying255 Tryz.underlying85 (by kernel_rfl) (by kernel_rfl) h3

/-- The door's own heap meets the condition. -/
theorem door_met (os : Os) (args : Array Value) : laidMetH Tryz.prog Rows.fnStreamsRow.laid ((World.doorLaid Tryz.prog 400 os).forCall (fun _ _ => 0) ⟨#[], args, []⟩).memory :=
  laidMetH_of_parts3 (fuel := 8) (laidMet_of_run' 8 (by kernel_rfl) (by kernel_rfl)) (by kernel_rfl) (by kernel_rfl)

set_option maxRecDepth 100000 in
theorem lifted (os : Os) (started : os.Started) (H : Type) (enc : TypeId × Value → H) :
    ReturnsInHanded {} Tryz.checked os 5 .any (fun w args => (Rows.fnStreamsSpec.pre enc Tryz.prog Tryz.f5 [] false w args ∧ laidMetH Tryz.prog Rows.fnStreamsRow.laid w) ∧ sizedMet enc Tryz.prog Tryz.f5 (OpenSpec.ofChange Rows.fnStreamsSpec) false w args)
      (Rows.fnStreamsSpec.post enc Tryz.prog Tryz.f5 false true false false) := by
  refine returnsInHanded_of_change_and (C := Tryz.checked) (X := fun w _ => laidMetH Tryz.prog Rows.fnStreamsRow.laid w) (fun _ _ _ hh h => h.of_heap hh) own started (by kernel_rfl) Tryz.func5
    (ChangeSpec.witness_shaped (enc := enc) (C := Tryz.checked) (os := os) (X := fun w _ => laidMetH Tryz.prog Rows.fnStreamsRow.laid w) false (World.doorLaid Tryz.prog 400 os) #[.slice none 0 0] 8 rfl (World.shaped_of_RefB (by kernel_rfl) (by kernel_rfl)) (by kernel_rfl) (by kernel_rfl) (by kernel_rfl) (door_met os _)) ?_
  intro W base args ds gs before hval0 hW _ _ hL _
  have hval : ∀ (j : Nat) t v, Tryz.f5.params[j]? = some t → args[j]? = some v → Value.okWide Tryz.prog W .any base t v := hval0
  have hW' := hW
  obtain ⟨p, q, hA0, hV, rfl, hfz, hnd⟩ := hW
  have hA : DataW.TrodAll enc Tryz.prog W 0 (fun _ => true) true Tryz.f5.params.toList args.toList ds p := hA0
  rw [Tryz.params5] at hA hval
  obtain ⟨v0, vs0, d0, ds0, p0, q0, hargs, rfl, rfl, h0, r0⟩ := trodAll_cons hA
  obtain ⟨rfl, rfl, rfl⟩ := trodAll_nil r0
  obtain rfl : args = #[v0] := by cases args; simp_all
  obtain ⟨rfl, rfl⟩ := trodVars_none hV
  obtain ⟨a0, len0, cap0, rfl⟩ := okWide_slice Tryz.underlying37 (hval 0 37 v0 rfl rfl)
  have k0 := h0
  have lt0 : ∀ x ∈ p0, x.block < W.heap.size := by obtain ⟨m, hm⟩ := k0; exact DataW.trod_lt m _ _ _ hm
  have w0 : Byts W a0 len0 cap0 := by
    obtain ⟨fuel, hf⟩ := h0
    exact open_byts hf
  have hT := of_laid hL
  clear hA0 hval0
  refine (lawStreams_walk a0 len0 cap0 W w0 hT).mono fun e W' ⟨he, bel⟩ => ?_
  subst he
  exact ⟨_, rfl, _, _, _, [], _, [], hW', trodAll_mk1 (shut_bool Tryz.underlying4 _), (trodAll_cons_mk (Below.trod laidOut (by kernel_rfl) (of_decide_eq_true (by kernel_rfl)) k0 bel lt0) trodAll_mk0), rfl, bel.frame _, fun h => by cases h⟩

theorem over : Rows.FnStreamsSaid :=
  OpenClaim.holds_of_wide 5 Tryz.f5 rfl rfl rfl rfl rfl rfl rfl ⟨rfl, rfl, rfl, rfl, rfl⟩ rfl rfl rfl rfl rfl (by kernel_rfl) Tryz.func5 (by kernel_rfl)
    (of_decide_eq_true (by kernel_rfl)) (by unfold Func.isWrapper; first | (rw [if_pos (by decide +kernel)]; kernel_rfl) | (rw [if_neg (by decide +kernel)]; exact ⟨rfl, rfl⟩))
    (fun os started H enc _ => lifted os started H enc)
end lawStreams

/-- The card. -/
theorem lawStreams_holds : Rows.FnStreamsCardSaid :=
  Claim7.holds_tied_plain_at .later [] [.data, .data, .data] true (true, "bd17397b3ea2f8008802a652cbba58bc667a2297c0ee9e53990c82e3fe901202") true
    lawStreams.over (fun _ h => by cases h) (by kernel_rfl) (fun _ h => by cases h) fnStreams_row_tie rfl ⟨rfl, rfl⟩ (by kernel_rfl) rfl
    (fun f fn hf hfn => by
      obtain rfl : f = 5 := Option.some.inj ((show Tryz.prog.funcNamed Rows.fnStreamsRow.func = some 5 by kernel_rfl).symm.trans hf) |>.symm
      obtain rfl : fn = Tryz.f5 := (Option.some.inj (Tryz.func5.symm.trans hfn)).symm
      exact ⟨by kernel_rfl, fun j t ht => by
        rw [Tryz.params5] at ht
        have hm : t ∈ [37] := by simpa using Array.mem_of_getElem? ht
        have hall : ([37].all fun u => !Tryz.prog.wantsStandIn u) = true := by kernel_rfl
        exact (show Tryz.prog.wantsStandIn t = false by simpa using List.all_eq_true.1 hall t hm)⟩)
    (by kernel_rfl)
#print axioms lawStreams_holds
end Go.Proofs.YtcglddahphkcpaaGreatDoor
