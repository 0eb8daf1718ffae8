/-
  Proved: whatever bytes it is given, laws.FnDeeps returns true: a value and all that is in it are as many as its cells. No condition.
-/
import Derived.Test.YthbiclpifeobkaaQ52
import Derived.ChangeOld
import Derived.Deep.RegionHeld3
import Derived.OpenShut
import Derived.ProofKit
import Derived.ShutString
namespace Go.Proofs.Ythbiclpifeobkaa
open Go.ChangeShapes Go.WideShapes Go.ChangeAt Go.RowKit
set_option linter.unusedVariables false
set_option linter.unusedSimpArgs false

set_option maxRecDepth 100000 in
set_option maxHeartbeats 4000000 in
theorem lawDeeps_walk (a : Option Addr) (len cap : Nat) (w : World) (hB : BytR w a len cap) :
    Calls Try.prog 7 #[.slice a len cap] w fun e w' => e = .returned (.bool true) ∧ Below w.heap.size w w' := by
  by_cases hbig : 1048576 < len
  · go_enter Try.func7, Try.ntmps7
    go_wp2_with fail
    refine (lwBig_any a len cap _).mono ?_
    rintro e w1 ⟨rfl, hw1⟩
    rw [hw1, decide_eq_true hbig]
    clear hw1
    go_wp2_with fail
    go_ret
    exact ⟨rfl, Below.refl _ _⟩
  have HD := hide (drawDeep_any a len cap w hB.1 (by omega))
  clear hB
  go_enter Try.func7, Try.ntmps7
  go_wp2_with fail
  refine (lwBig_any a len cap _).mono ?_
  rintro e w1 ⟨rfl, hw1⟩
  rw [hw1, decide_eq_false hbig]
  clear hw1
  go_wp2_with fail
  refine (unhide HD).mono ?_
  rintro e V0 ⟨s1, l, rfl, G1, BW⟩
  have HG := hide G1
  have FIN := hide (fun (V : World) (hV : Below V0.heap.size V0 V) => BW.trans (hV.mono BW.size))
  obtain ⟨g1, c1, rfl, hg1, hc1, hrow1⟩ := G1.at
  have hok := G1.2.2.2
  have hl3 := G1.2.2.1
  clear HD BW
  by_cases hx : (deepOut l).1 = 0
  · obtain ⟨hv, hdo, hfa, hea, hdl, hpt, hp0⟩ := deep_told hok hx
    have HMD := hide (deep_made hv hok)
    have hl1 := (M.fault_zero hv).1
    obtain ⟨R, hR⟩ : ∃ R, R = arrV (deepL l) := ⟨_, rfl⟩
    rw [← hR] at hdo hfa hea HMD
    have hRl := (M.fault_zero hfa).2.1
    clear hx hR
    go_wp2_with fail
    refine (Dv.dpi (unhide HG) (Below.refl _ _) hdo).mono ?_
    rintro e V1 ⟨s2, rfl, hr2, hb2⟩
    obtain ⟨b2, c2, rfl, hc2, hlt2, hrow2⟩ := hr2.rowedD (unhide HMD).1
    obtain ⟨w3, hw3⟩ : ∃ w3, w3 = V1.alloc (.cells #[.int .i64 0, .slice (some ⟨b2, 0, none⟩) R.length c2] 41) := ⟨_, rfl⟩
    have B13 : Below V1.heap.size V1 w3 := by rw [hw3]; exact (Below.refl _ _).alloc (Nat.le_refl _) _
    have B03 : Below V0.heap.size V0 w3 := hb2.trans (B13.mono hb2.size)
    have HEA := hide (show Calls Try.prog 16 #[.slice (some ⟨b2, 0, none⟩) R.length c2] w3 (AnsR w3 (0, deepL l)) by
      rw [← hea]
      exact implEachOf_any R b2 0 c2 w3 (hrow2.below B13 hlt2) (Nat.lt_of_lt_of_le hlt2 B13.size) (by omega) hc2 (unhide HMD).2.2)
    clear hr2 hb2 hrow2 B13 hea hfa HMD
    go_wp2_with fail
    rw [← hw3]
    clear hw3
    refine (unhide HEA).mono ?_
    rintro e w4 ⟨s4, rfl, hpr, hb4⟩
    simp only at hpr
    rcases hpr with ⟨_, hnil⟩ | ⟨g4, c4, xs, β, γ, rfl, hc4, hlo4, hg4, hown4, hel, _⟩
    · rw [hnil] at hdl
      simp at hdl
      omega
    have B04 : Below V0.heap.size V0 w4 := B03.trans (hb4.mono B03.size)
    simp only [hdl]
    obtain ⟨w5, hw5⟩ : ∃ w5, w5 = w4.alloc (.cells #[.int .i64 0, .slice (some ⟨g4, 0, none⟩) l.length c4] 33) := ⟨_, rfl⟩
    have B45 : Below w4.heap.size w4 w5 := by rw [hw5]; exact (Below.refl _ _).alloc (Nat.le_refl _) _
    have B05 : Below V0.heap.size V0 w5 := B04.trans (B45.mono B04.size)
    have LD : Dv.Ld w5 g4 w4.heap.size c4 xs β γ l := by
      refine ⟨by rw [hw5]; exact ⟨_, heap_alloc_new _ _, rfl⟩, hown4.below B45 hown4.lt, fun i hi => ?_⟩
      obtain ⟨k1, k2, k3, k4, k5, k6⟩ := hel i (by omega)
      rw [(hpt i hi).1] at k1 k2 k6
      exact ⟨k1, k2, Nat.lt_of_lt_of_le k4 B45.size, k6.row.below B45 k4⟩
    have HLD := hide LD
    have c50 := LD.res.cell 0
    have c51 := LD.res.cell 1
    have x0 := LD.cell hl1
    simp only [List.getElem?_cons_zero, List.getElem?_cons_succ] at c50 c51
    have hsm : ∀ k, k < l.length → sameOut (part l k) (part l k) = true := fun k hk => by rw [Od.same_eq (hpt k hk).2.1 (hpt k hk).2.1, Od.out_self (hpt k hk).2.1]; rfl
    have HS0 := hide (show Calls Try.prog 14 #[.slice (some ⟨β 0, 0, none⟩) (part l 0).length (γ 0), .slice (some ⟨g1, 0, none⟩) l.length c1] w5 fun e w' => e = .returned (.bool true) ∧ Below w5.heap.size w5 w' by
      have hs0 := hsm 0 hl1
      have q := LD.at_ 0 hl1
      have r := implSame_any (part l 0) l (β 0) 0 (γ 0) g1 0 c1 w5 q.2.2.2 q.2.2.1 (by rw [hp0]; omega) q.2.1 (by rw [hp0]; exact hok) (hrow1.below B05 hg1) (Nat.lt_of_lt_of_le hg1 B05.size) (by omega) hc1 hok
      rw [show sameOut (part l 0) l = true from by rw [hp0] at hs0 ⊢; exact hs0] at r
      exact r)
    have HPT := hide hpt
    have HSM := hide hsm
    have HDO := hide hdo
    have hne : ((l.length : Int) != (l.length : Int)) = false := by simp
    have h0I : (0 : Int) < (l.length : Int) := by omega
    rw [hw5] at c50 c51 x0
    clear hpt hsm hdo hel hown4 hlo4 hg4 hc4 LD B45 B04 hb4 B03 HEA hp0 hdl
    go_wp2_with fail
    rw [← hw5]
    clear hw5 c50 c51 x0
    refine (unhide HS0).mono ?_
    rintro e w6 ⟨rfl, hb6⟩
    clear HS0
    go_wp2_with fail
    go_loopg [6] l.length (fun gh s6 wr => ∃ k : Nat, Hid (gh = l.length - k) ∧ s6 = .int .i64 (k : Int) ∧ k ≤ l.length ∧ Below w5.heap.size w5 wr)
    case atStart => exact ⟨0, rfl, rfl, by omega, hb6⟩
    case round =>
      obtain ⟨k, hg, rfl, hk, hbel⟩ := hrel
      have BR : Below V0.heap.size V0 wr := B05.trans (hbel.mono B05.size)
      by_cases hlt : k < l.length
      · have hltI : (k : Int) < (l.length : Int) := by omega
        have hk0 : (0 : Int) ≤ (k : Int) := by omega
        have HPA := hide (Dv.pti (unhide HG) BR ((unhide HPT) k hlt).2.2.1)
        go_wp2_with fail
        refine (unhide HPA).mono ?_
        rintro e w7 ⟨s7, rfl, hr7, hb7⟩
        obtain ⟨b7, c7, rfl, hc7, hlt7, hrow7⟩ := hr7.rowedD (fun e => by have := (M.fault_zero ((unhide HPT) k hlt).2.1).1; rw [e] at this; simp at this)
        obtain ⟨w8, hw8⟩ : ∃ w8, w8 = w7.alloc (.cells #[.int .i64 0, .slice (some ⟨b7, 0, none⟩) (part l k).length c7] 41) := ⟨_, rfl⟩
        have B78 : Below w7.heap.size w7 w8 := by rw [hw8]; exact (Below.refl _ _).alloc (Nat.le_refl _) _
        have B57 : Below w5.heap.size w5 w7 := hbel.trans (hb7.mono hbel.size)
        have B58 : Below w5.heap.size w5 w8 := B57.trans (B78.mono B57.size)
        have o8 : Own w8 w7.heap.size 41 [.int .i64 0, .slice (some ⟨b7, 0, none⟩) (part l k).length c7] := by rw [hw8]; exact ⟨_, heap_alloc_new _ _, rfl⟩
        have L8 := (unhide HLD).below B58
        have d0 := o8.cell 0
        have d1 := o8.cell 1
        have d2 := L8.res.cell 1
        have d3 := L8.cell hlt
        simp only [List.getElem?_cons_zero, List.getElem?_cons_succ] at d0 d1 d2
        have HS := hide (fun (w' : World) (hb : Below w8.heap.size w8 w') => show Calls Try.prog 14 #[.slice (some ⟨b7, 0, none⟩) (part l k).length c7, .slice (some ⟨β k, 0, none⟩) (part l k).length (γ k)] w' fun e w'' => e = .returned (.bool true) ∧ Below w8.heap.size w8 w'' from by
          have q := L8.at_ k hlt
          have p := (unhide HPT) k hlt
          refine (implSame_any (part l k) (part l k) b7 0 c7 (β k) 0 (γ k) w' ((hrow7.below B78 hlt7).below hb (Nat.lt_of_lt_of_le hlt7 B78.size)) (Nat.lt_of_lt_of_le (Nat.lt_of_lt_of_le hlt7 B78.size) hb.size) (by have := p.2.2.2.1; omega) hc7 p.2.2.2.2 (q.2.2.2.below hb q.2.2.1) (Nat.lt_of_lt_of_le q.2.2.1 hb.size) (by have := p.2.2.2.1; omega) q.2.1 p.2.2.2.2).mono fun e w'' h => ?_
          rw [(unhide HSM) k hlt] at h
          exact ⟨h.1, hb.trans (h.2.mono hb.size)⟩)
        have t0 : w7.heap.size < w8.heap.size := o8.lt
        have t1 : w4.heap.size < w8.heap.size := L8.res.lt
        have t2 : g4 < w8.heap.size := L8.row.lt
        have hkw : IntKind.i64.wrap ((k : Int) + 1) = ((k + 1 : Nat) : Int) := by rw [IntWalk.i64_in _ ⟨by omega, by omega⟩]; simp
        have B88 : Below w8.heap.size w8 w8 := Below.refl _ _
        clear hr7 hb7 hrow7 B78 B57 L8 o8 BR HPA
        go_wp2_with fail
        rw [← hw8]
        clear hw8
        go_region_held3 (fun w' => w'.cell? ⟨w7.heap.size, 0, none⟩ = some (.int .i64 0) ∧ w'.cell? ⟨w7.heap.size, 1, none⟩ = some (.slice (some ⟨b7, 0, none⟩) (part l k).length c7) ∧ w'.cell? ⟨w4.heap.size, 1, none⟩ = some (.slice (some ⟨g4, 0, none⟩) l.length c4) ∧ w'.cell? ⟨g4, k, none⟩ = some (.slice (some ⟨β k, 0, none⟩) (part l k).length (γ k))) (first | (simp [go_sem, d0, d1, d2, d3]; done) | exact ⟨(hbq.cell (by exact t0)).trans d0, (hbq.cell (by exact t0)).trans d1, (hbq.cell (by exact t1)).trans d2, (hbq.cell (by exact t2)).trans d3⟩)
          (first | (go_at_call 14; refine ((unhide HS) _ B88.drew).mono ?_; rintro e wq ⟨rfl, hbq⟩))
        have B5q : Below w5.heap.size w5 wq := B58.trans (hbq.mono B58.size)
        clear hbq B58 d0 d1 d2 d3 HS
        go_wp2_with fail
        go_roundg (l.length - (k + 1))
        case rel => exact ⟨k + 1, rfl, by go_num, by omega, B5q⟩
        case measure => have := hg.out; omega
      · have hltI : ¬ (k : Int) < (l.length : Int) := by omega
        have HDD := hide (Dv.dpd (unhide HG) BR hv (unhide HDO))
        go_wp2_with fail
        refine (unhide HDD).mono ?_
        rintro e w9 ⟨s9, rfl, hr9, hb9⟩
        obtain ⟨a9, n9, c9, rfl⟩ := hr9.shape
        have hf0 := fun W => fldVR 0 a9 n9 c9 W
        go_wp2_with fail
        go_ret
        exact ⟨ret_bool (by simp), unhide FIN _ (BR.trans (hb9.mono BR.size))⟩
  · obtain ⟨⟨x, r⟩, hq⟩ : ∃ q, deepOut l = q := ⟨_, rfl⟩
    rw [hq] at hx
    simp only at hx
    have g0 : (x != 0) = true := by simpa using hx
    go_wp2_with fail
    refine (Dv.dpi (unhide HG) (Below.refl _ _) hq).mono ?_
    rintro e V1 ⟨s2, rfl, hr2, hb2⟩
    obtain ⟨a2, n2, c2, rfl⟩ := hr2.shape
    obtain ⟨w3, hw3⟩ : ∃ w3, w3 = V1.alloc (.cells #[.int .i64 x, .slice a2 n2 c2] 41) := ⟨_, rfl⟩
    have O3 : Own w3 V1.heap.size 41 [.int .i64 x, .slice a2 n2 c2] := by rw [hw3]; exact ⟨_, heap_alloc_new _ _, rfl⟩
    have B3 : Below V0.heap.size V0 w3 := by rw [hw3]; exact hb2.alloc hb2.size _
    have HS := hide (fun (V : World) (hV : Below V0.heap.size V0 V) => Dv.dps (unhide HG) hV hq)
    have c0 := O3.cell 0
    simp only [List.getElem?_cons_zero] at c0
    clear hr2 hb2 hx
    go_wp2_with fail
    rw [← hw3]
    clear hw3
    go_region_with (go_at_call 33; refine ((unhide HS) _ B3.drew).mono ?_; rintro e w4 ⟨s4, rfl, hr4, hb4⟩; obtain ⟨a4, n4, c4, rfl⟩ := hr4.shape; have hf0 := fun W => fldVR x a4 n4 c4 W; have cc := ((show Own w3.drew V1.heap.size 41 [.int .i64 x, .slice a2 n2 c2] from O3).below hb4 O3.lt).cell 0; simp only [List.getElem?_cons_zero] at cc)
    all_goals
      go_wp2_with fail
      go_ret
      exact ⟨ret_bool (by simp), unhide FIN _ (B3.drew.trans (hb4.mono B3.size))⟩

namespace lawDeeps
theorem own : ownKnob Try.prog.godebug = none := by kernel_rfl
theorem laidOut : laidOutB Try.prog = true := by kernel_rfl

set_option maxRecDepth 100000 in
theorem lifted (os : Os) (started : os.Started) (H : Type) (enc : TypeId × Value → H) :
    ReturnsInHanded {} Try.checked os 7 .any (Rows.fnDeepsSpec.pre6 enc Try.prog Try.f7 Rows.fnDeepsRow.domain false) (Rows.fnDeepsSpec.post enc Try.prog Try.f7 false true false false) := by
  refine returnsInHanded_of_change (C := Try.checked) own started (by kernel_rfl) Try.func7
    (ChangeSpec.witness6 (enc := enc) (C := Try.checked) false ⟨#[], #[.slice none 0 0], []⟩ 8 (by kernel_rfl) (by kernel_rfl) (by kernel_rfl) (by kernel_rfl)) ?_
  intro W base args ds gs before hval0 hW hcnd _
  have hval : ∀ (j : Nat) t v, Try.f7.params[j]? = some t → args[j]? = some v → Value.okWide Try.prog W .any base t v := hval0
  have hW' := hW
  obtain ⟨p, q, hA0, hV, rfl, hfz, hnd⟩ := hW
  have hA : DataW.TrodAll enc Try.prog W 0 (fun _ => true) true Try.f7.params.toList args.toList ds p := hA0
  rw [Try.params7] at hA hval
  obtain ⟨v0, vs0, d0, ds0, p0, q0, hargs, rfl, rfl, h0, r0⟩ := trodAll_cons hA
  obtain ⟨rfl, rfl, rfl⟩ := trodAll_nil r0
  obtain rfl : args = #[v0] := by cases args; simp_all
  obtain ⟨rfl, rfl⟩ := trodVars_none hV
  obtain ⟨a0, len0, cap0, rfl⟩ := okWide_slice Try.underlying22 (hval 0 22 v0 rfl rfl)
  have k0 := h0
  have lt0 : ∀ x ∈ p0, x.block < W.heap.size := by obtain ⟨m, hm⟩ := k0; exact DataW.trod_lt m _ _ _ hm
  have w0 : BytR W a0 len0 cap0 := by
    obtain ⟨fuel, hf⟩ := h0
    exact open_bytR hf
  clear hA0 hval0
  refine (lawDeeps_walk a0 len0 cap0 W w0).mono fun e W' ⟨he, bel⟩ => ?_
  subst he
  exact ⟨_, rfl, _, _, _, [], _, [], hW', trodAll_mk1 (shut_bool Try.underlying4 _), (trodAll_cons_mk (Below.trod laidOut (by kernel_rfl) (of_decide_eq_true (by kernel_rfl)) k0 bel lt0) trodAll_mk0), rfl, bel.frame _, fun h => by cases h⟩

theorem over : Rows.fnDeepsRow.holds Try.pinned (OpenSpec.ofChange Rows.fnDeepsSpec) :=
  OpenClaim.holds_of_wide 7 Try.f7 rfl rfl rfl rfl rfl rfl rfl ⟨rfl, rfl, rfl, rfl, rfl⟩ rfl rfl rfl rfl rfl (by kernel_rfl) Try.func7 (by kernel_rfl)
    (of_decide_eq_true (by kernel_rfl)) (by unfold Func.isWrapper; first | (rw [if_pos (by decide +kernel)]; kernel_rfl) | (rw [if_neg (by decide +kernel)]; exact ⟨rfl, rfl⟩))
    (fun os started H enc _ => lifted os started H enc)
end lawDeeps

/-- The statement. -/
theorem lawDeeps_holds : Rows.FnDeepsSaid := lawDeeps.over
#print axioms lawDeeps_holds

end Go.Proofs.Ythbiclpifeobkaa
