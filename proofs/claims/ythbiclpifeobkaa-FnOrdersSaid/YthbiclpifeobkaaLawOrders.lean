/-
  Proved: whatever bytes it is given, laws.FnOrders returns true: values have one order. No condition.
-/
import Derived.Test.YthbiclpifeobkaaQ51
import Derived.ChangeOld
import Derived.OpenShut
import Derived.ProofKit
import Derived.ShutString
namespace Go.Proofs.Ythbiclpifeobkaa
open Go.ChangeShapes Go.WideShapes Go.ChangeAt Go.RowKit
set_option linter.unusedVariables false
set_option linter.unusedSimpArgs false

set_option maxRecDepth 100000 in
set_option maxHeartbeats 4000000 in
theorem lawOrders_walk (a : Option Addr) (len cap : Nat) (w : World) (hB : BytR w a len cap) :
    Calls Try.prog 3 #[.slice a len cap] w fun e w' => e = .returned (.bool true) ∧ Below w.heap.size w w' := by
  by_cases hbig : 1048576 < len
  · go_enter Try.func3, Try.ntmps3
    go_wp2_with fail
    refine (lwBig_any a len cap _).mono ?_
    rintro e w1 ⟨rfl, hw1⟩
    rw [hw1, decide_eq_true hbig]
    clear hw1
    go_wp2_with fail
    go_ret
    exact ⟨rfl, Below.refl _ _⟩
  have HD := hide (drawCompare_any a len cap w hB.1 (by omega))
  have HB := hide hB
  clear hB
  go_enter Try.func3, Try.ntmps3
  go_wp2_with fail
  refine (lwBig_any a len cap _).mono ?_
  rintro e w1 ⟨rfl, hw1⟩
  rw [hw1, decide_eq_false hbig]
  clear hw1
  go_wp2_with fail
  refine (unhide HD).mono ?_
  rintro e w1 ⟨s1, l1, s2, l2, rfl, G1, G2, Bd1⟩
  have HB1 := hide ((unhide HB).below Bd1)
  obtain ⟨⟨g1, c1, rfl⟩, _⟩ := id G1
  obtain ⟨⟨g2, c2, rfl⟩, _⟩ := id G2
  have HK1 := hide G1
  have HK2 := hide G2
  clear G1 G2 HD
  obtain ⟨i0, hi, hz0, hz1, hz2⟩ := info_parts infoByte
  have hs1 := Bd1.size
  have hown := hide (World.ownsRow_lit (base := w.heap.size) (e := 5) (size := 1) w1 #[.int .u8 5] 1 hs1 (by unfold maxLen; omega) rfl)
  have HB2 := hide ((unhide HB1).below (w' := w1.alloc (.cells #[.int .u8 5] 5)) ((Below.refl _ _).alloc (Nat.le_refl _) _))
  have h63 : 1 + len ≤ maxLen := by unfold maxLen; omega
  have hby : (1 + len) * 1 ≤ 140737488355328 := by omega
  go_wp2_with (at_builtin; refine append_byts rfl (.tmp 15) (.tmp 16) 22 rfl w.heap.size 5 i0 _ 1 Try.underlying22 hi hz0 hz1 hz2 rfl (.slice (some ⟨w1.heap.size, 0, none⟩) 1 1) 1 _ rfl (unhide hown) (fun e => by cases e) a len cap rfl (unhide HB2) h63 hby (by simp; omega) ?_)
  intro v3 w3 ys hys ho3 hg3 hne3
  have B13 : Below w1.heap.size w1 w3 := ((Below.refl _ _).alloc (Nat.le_refl _) _).grown hg3 (by simp) (fun k e => by cases e; exact Nat.le_refl _)
  obtain ⟨g, cap3, rfl, HBy⟩ := byts_of_own ho3 (fun u hu => by
    rcases List.mem_cons.1 hu with h | h
    · exact ⟨5, by decide, h⟩
    · exact hys u h) hne3
  have HT := hide (drawTruthy_any (some ⟨g, 0, none⟩) (1 + len) cap3 w3 HBy (by omega))
  clear HBy ho3 hg3 hne3 hys hown HB2 HB1 HB hi hz0 hz1 hz2 h63 hby
  go_wp2_with fail
  refine (unhide HT).mono ?_
  rintro e V0 ⟨s3, l3, rfl, G3, B34⟩
  have BW : Below w.heap.size w V0 := (Bd1.trans (B13.mono hs1)).trans (B34.mono (Nat.le_trans hs1 B13.size))
  have HG1 := hide (((unhide HK1).below B13).below B34)
  have HG2 := hide (((unhide HK2).below B13).below B34)
  obtain ⟨⟨g3, c3, rfl⟩, _⟩ := id G3
  have HG3 := hide G3
  have FIN := hide (fun (V : World) (hV : Below V0.heap.size V0 V) => BW.trans (hV.mono BW.size))
  have hV0 : Below V0.heap.size V0 V0 := Below.refl _ _
  clear G3 BW B34 B13 Bd1 HK1 HK2 HT hs1
  obtain ⟨q1, hq1⟩ : ∃ q, M.valueFault l1 = q := ⟨_, rfl⟩
  obtain ⟨q2, hq2⟩ : ∃ q, M.valueFault l2 = q := ⟨_, rfl⟩
  obtain ⟨q3, hq3⟩ : ∃ q, M.valueFault l3 = q := ⟨_, rfl⟩
  by_cases z1 : q1 = 0
  · subst z1
    by_cases z2 : q2 = 0
    · subst z2
      by_cases z3 : q3 = 0
      · subst z3
        have h11 := Od.out_self hq1
        have hs11 : sameOut l1 l1 = true := by rw [Od.same_eq hq1 hq1, h11]; rfl
        have h21 := Od.out_neg hq1 hq2
        have hs12 := Od.same_eq hq1 hq2
        have HTT := hide (Od.out_TT hq1 hq2 hq3)
        go_wp2_with fail
        refine (Dv.spf (unhide HG1) hV0 hq1).mono ?_
        rintro e V1 ⟨rfl, hV1⟩
        clear hV0
        go_wp2_with fail
        refine (Dv.spf (unhide HG2) hV1 hq2).mono ?_
        rintro e V2 ⟨rfl, hV2⟩
        clear hV1
        go_wp2_with fail
        refine (Dv.spf (unhide HG3) hV2 hq3).mono ?_
        rintro e V3 ⟨rfl, hV3⟩
        clear hV2
        rcases Od.out_three l1 l2 with hx | hx | hx
        · have h21x : cmpOut l2 l1 = 1 := by omega
          have hs12x : sameOut l1 l2 = false := by rw [hs12, hx]; rfl
          clear h21 hs12
          go_wp2_with fail
          refine (Dv.imc (unhide HG1) (unhide HG2) hV3 hx).mono ?_
          rintro e V4 ⟨rfl, hV4⟩
          clear hV3
          rcases Od.out_three l2 l3 with hy | hy | hy
          · go_wp2_with fail
            refine (Dv.imc (unhide HG2) (unhide HG3) hV4 hy).mono ?_
            rintro e V5 ⟨rfl, hV5⟩
            clear hV4
            go_wp2_with fail
            refine (Dv.imc (unhide HG2) (unhide HG1) hV5 h21x).mono ?_
            rintro e V6 ⟨rfl, hV6⟩
            clear hV5
            go_wp2_with fail
            refine (Dv.imc (unhide HG1) (unhide HG1) hV6 h11).mono ?_
            rintro e V7 ⟨rfl, hV7⟩
            clear hV6
            go_wp2_with fail
            refine (Dv.ims (unhide HG1) (unhide HG2) hV7 hs12x).mono ?_
            rintro e V8 ⟨rfl, hV8⟩
            clear hV7
            go_wp2_with fail
            refine (Dv.ims (unhide HG1) (unhide HG1) hV8 hs11).mono ?_
            rintro e V9 ⟨rfl, hV9⟩
            clear hV8
            have h13 := unhide HTT (by omega) (by omega)
            rcases Od.out_three l1 l3 with hz | hz | hz
            · clear h13
              go_wp2_with fail
              refine (Dv.imc (unhide HG1) (unhide HG3) hV9 hz).mono ?_
              rintro e V10 ⟨rfl, hV10⟩
              clear hV9
              go_wp2_with fail
              go_ret
              exact ⟨rfl, unhide FIN _ hV10⟩
            · clear h13
              go_wp2_with fail
              refine (Dv.imc (unhide HG1) (unhide HG3) hV9 hz).mono ?_
              rintro e V10 ⟨rfl, hV10⟩
              clear hV9
              go_wp2_with fail
              go_ret
              exact ⟨rfl, unhide FIN _ hV10⟩
            · exact absurd h13 (by omega)
          · go_wp2_with fail
            refine (Dv.imc (unhide HG2) (unhide HG3) hV4 hy).mono ?_
            rintro e V5 ⟨rfl, hV5⟩
            clear hV4
            go_wp2_with fail
            refine (Dv.imc (unhide HG2) (unhide HG1) hV5 h21x).mono ?_
            rintro e V6 ⟨rfl, hV6⟩
            clear hV5
            go_wp2_with fail
            refine (Dv.imc (unhide HG1) (unhide HG1) hV6 h11).mono ?_
            rintro e V7 ⟨rfl, hV7⟩
            clear hV6
            go_wp2_with fail
            refine (Dv.ims (unhide HG1) (unhide HG2) hV7 hs12x).mono ?_
            rintro e V8 ⟨rfl, hV8⟩
            clear hV7
            go_wp2_with fail
            refine (Dv.ims (unhide HG1) (unhide HG1) hV8 hs11).mono ?_
            rintro e V9 ⟨rfl, hV9⟩
            clear hV8
            have h13 := unhide HTT (by omega) (by omega)
            rcases Od.out_three l1 l3 with hz | hz | hz
            · clear h13
              go_wp2_with fail
              refine (Dv.imc (unhide HG1) (unhide HG3) hV9 hz).mono ?_
              rintro e V10 ⟨rfl, hV10⟩
              clear hV9
              go_wp2_with fail
              go_ret
              exact ⟨rfl, unhide FIN _ hV10⟩
            · clear h13
              go_wp2_with fail
              refine (Dv.imc (unhide HG1) (unhide HG3) hV9 hz).mono ?_
              rintro e V10 ⟨rfl, hV10⟩
              clear hV9
              go_wp2_with fail
              go_ret
              exact ⟨rfl, unhide FIN _ hV10⟩
            · exact absurd h13 (by omega)
          · go_wp2_with fail
            refine (Dv.imc (unhide HG2) (unhide HG3) hV4 hy).mono ?_
            rintro e V5 ⟨rfl, hV5⟩
            clear hV4
            go_wp2_with fail
            refine (Dv.imc (unhide HG2) (unhide HG1) hV5 h21x).mono ?_
            rintro e V6 ⟨rfl, hV6⟩
            clear hV5
            go_wp2_with fail
            refine (Dv.imc (unhide HG1) (unhide HG1) hV6 h11).mono ?_
            rintro e V7 ⟨rfl, hV7⟩
            clear hV6
            go_wp2_with fail
            refine (Dv.ims (unhide HG1) (unhide HG2) hV7 hs12x).mono ?_
            rintro e V8 ⟨rfl, hV8⟩
            clear hV7
            go_wp2_with fail
            refine (Dv.ims (unhide HG1) (unhide HG1) hV8 hs11).mono ?_
            rintro e V9 ⟨rfl, hV9⟩
            clear hV8
            go_wp2_with fail
            go_ret
            exact ⟨rfl, unhide FIN _ hV9⟩
        · have h21x : cmpOut l2 l1 = 0 := by omega
          have hs12x : sameOut l1 l2 = true := by rw [hs12, hx]; rfl
          clear h21 hs12
          go_wp2_with fail
          refine (Dv.imc (unhide HG1) (unhide HG2) hV3 hx).mono ?_
          rintro e V4 ⟨rfl, hV4⟩
          clear hV3
          rcases Od.out_three l2 l3 with hy | hy | hy
          · go_wp2_with fail
            refine (Dv.imc (unhide HG2) (unhide HG3) hV4 hy).mono ?_
            rintro e V5 ⟨rfl, hV5⟩
            clear hV4
            go_wp2_with fail
            refine (Dv.imc (unhide HG2) (unhide HG1) hV5 h21x).mono ?_
            rintro e V6 ⟨rfl, hV6⟩
            clear hV5
            go_wp2_with fail
            refine (Dv.imc (unhide HG1) (unhide HG1) hV6 h11).mono ?_
            rintro e V7 ⟨rfl, hV7⟩
            clear hV6
            go_wp2_with fail
            refine (Dv.ims (unhide HG1) (unhide HG2) hV7 hs12x).mono ?_
            rintro e V8 ⟨rfl, hV8⟩
            clear hV7
            go_wp2_with fail
            refine (Dv.ims (unhide HG1) (unhide HG1) hV8 hs11).mono ?_
            rintro e V9 ⟨rfl, hV9⟩
            clear hV8
            have h13 := unhide HTT (by omega) (by omega)
            rcases Od.out_three l1 l3 with hz | hz | hz
            · clear h13
              go_wp2_with fail
              refine (Dv.imc (unhide HG1) (unhide HG3) hV9 hz).mono ?_
              rintro e V10 ⟨rfl, hV10⟩
              clear hV9
              go_wp2_with fail
              go_ret
              exact ⟨rfl, unhide FIN _ hV10⟩
            · clear h13
              go_wp2_with fail
              refine (Dv.imc (unhide HG1) (unhide HG3) hV9 hz).mono ?_
              rintro e V10 ⟨rfl, hV10⟩
              clear hV9
              go_wp2_with fail
              go_ret
              exact ⟨rfl, unhide FIN _ hV10⟩
            · exact absurd h13 (by omega)
          · go_wp2_with fail
            refine (Dv.imc (unhide HG2) (unhide HG3) hV4 hy).mono ?_
            rintro e V5 ⟨rfl, hV5⟩
            clear hV4
            go_wp2_with fail
            refine (Dv.imc (unhide HG2) (unhide HG1) hV5 h21x).mono ?_
            rintro e V6 ⟨rfl, hV6⟩
            clear hV5
            go_wp2_with fail
            refine (Dv.imc (unhide HG1) (unhide HG1) hV6 h11).mono ?_
            rintro e V7 ⟨rfl, hV7⟩
            clear hV6
            go_wp2_with fail
            refine (Dv.ims (unhide HG1) (unhide HG2) hV7 hs12x).mono ?_
            rintro e V8 ⟨rfl, hV8⟩
            clear hV7
            go_wp2_with fail
            refine (Dv.ims (unhide HG1) (unhide HG1) hV8 hs11).mono ?_
            rintro e V9 ⟨rfl, hV9⟩
            clear hV8
            have h13 := unhide HTT (by omega) (by omega)
            rcases Od.out_three l1 l3 with hz | hz | hz
            · clear h13
              go_wp2_with fail
              refine (Dv.imc (unhide HG1) (unhide HG3) hV9 hz).mono ?_
              rintro e V10 ⟨rfl, hV10⟩
              clear hV9
              go_wp2_with fail
              go_ret
              exact ⟨rfl, unhide FIN _ hV10⟩
            · clear h13
              go_wp2_with fail
              refine (Dv.imc (unhide HG1) (unhide HG3) hV9 hz).mono ?_
              rintro e V10 ⟨rfl, hV10⟩
              clear hV9
              go_wp2_with fail
              go_ret
              exact ⟨rfl, unhide FIN _ hV10⟩
            · exact absurd h13 (by omega)
          · go_wp2_with fail
            refine (Dv.imc (unhide HG2) (unhide HG3) hV4 hy).mono ?_
            rintro e V5 ⟨rfl, hV5⟩
            clear hV4
            go_wp2_with fail
            refine (Dv.imc (unhide HG2) (unhide HG1) hV5 h21x).mono ?_
            rintro e V6 ⟨rfl, hV6⟩
            clear hV5
            go_wp2_with fail
            refine (Dv.imc (unhide HG1) (unhide HG1) hV6 h11).mono ?_
            rintro e V7 ⟨rfl, hV7⟩
            clear hV6
            go_wp2_with fail
            refine (Dv.ims (unhide HG1) (unhide HG2) hV7 hs12x).mono ?_
            rintro e V8 ⟨rfl, hV8⟩
            clear hV7
            go_wp2_with fail
            refine (Dv.ims (unhide HG1) (unhide HG1) hV8 hs11).mono ?_
            rintro e V9 ⟨rfl, hV9⟩
            clear hV8
            go_wp2_with fail
            go_ret
            exact ⟨rfl, unhide FIN _ hV9⟩
        · have h21x : cmpOut l2 l1 = -1 := by omega
          have hs12x : sameOut l1 l2 = false := by rw [hs12, hx]; rfl
          clear h21 hs12
          go_wp2_with fail
          refine (Dv.imc (unhide HG1) (unhide HG2) hV3 hx).mono ?_
          rintro e V4 ⟨rfl, hV4⟩
          clear hV3
          go_wp2_with fail
          refine (Dv.imc (unhide HG2) (unhide HG3) hV4 rfl).mono ?_
          rintro e V5 ⟨rfl, hV5⟩
          clear hV4
          generalize cmpOut l2 l3 = y
          go_wp2_with fail
          refine (Dv.imc (unhide HG2) (unhide HG1) hV5 h21x).mono ?_
          rintro e V6 ⟨rfl, hV6⟩
          clear hV5
          go_wp2_with fail
          refine (Dv.imc (unhide HG1) (unhide HG1) hV6 h11).mono ?_
          rintro e V7 ⟨rfl, hV7⟩
          clear hV6
          go_wp2_with fail
          refine (Dv.ims (unhide HG1) (unhide HG2) hV7 hs12x).mono ?_
          rintro e V8 ⟨rfl, hV8⟩
          clear hV7
          go_wp2_with fail
          refine (Dv.ims (unhide HG1) (unhide HG1) hV8 hs11).mono ?_
          rintro e V9 ⟨rfl, hV9⟩
          clear hV8
          go_wp2_with fail
          go_ret
          exact ⟨rfl, unhide FIN _ hV9⟩
      · have z3 : (q3 == 0) = false := by simp [z3]
        have e1 : ((0 : Int) == 0) = true := beq_self_eq_true _
        have e2 : ((0 : Int) == 0) = true := beq_self_eq_true _
        have e3 : (q3 == q3) = true := beq_self_eq_true _
        go_wp2_with fail
        refine (Dv.spf (unhide HG1) hV0 hq1).mono ?_
        rintro e V1 ⟨rfl, hV1⟩
        clear hV0
        go_wp2_with fail
        refine (Dv.spf (unhide HG2) hV1 hq2).mono ?_
        rintro e V2 ⟨rfl, hV2⟩
        clear hV1
        go_wp2_with fail
        refine (Dv.spf (unhide HG3) hV2 hq3).mono ?_
        rintro e V3 ⟨rfl, hV3⟩
        clear hV2
        go_wp2_with fail
        refine (Dv.imf (unhide HG1) hV3 hq1).mono ?_
        rintro e V4 ⟨rfl, hV4⟩
        clear hV3
        go_wp2_with fail
        refine (Dv.spf (unhide HG1) hV4 hq1).mono ?_
        rintro e V5 ⟨rfl, hV5⟩
        clear hV4
        go_wp2_with fail
        refine (Dv.imf (unhide HG2) hV5 hq2).mono ?_
        rintro e V6 ⟨rfl, hV6⟩
        clear hV5
        go_wp2_with fail
        refine (Dv.spf (unhide HG2) hV6 hq2).mono ?_
        rintro e V7 ⟨rfl, hV7⟩
        clear hV6
        go_wp2_with fail
        refine (Dv.imf (unhide HG3) hV7 hq3).mono ?_
        rintro e V8 ⟨rfl, hV8⟩
        clear hV7
        go_wp2_with fail
        refine (Dv.spf (unhide HG3) hV8 hq3).mono ?_
        rintro e V9 ⟨rfl, hV9⟩
        clear hV8
        go_wp2_with fail
        go_ret
        exact ⟨rfl, unhide FIN _ hV9⟩
    · have z2 : (q2 == 0) = false := by simp [z2]
      have e1 : ((0 : Int) == 0) = true := beq_self_eq_true _
      have e2 : (q2 == q2) = true := beq_self_eq_true _
      have e3 : (q3 == q3) = true := beq_self_eq_true _
      go_wp2_with fail
      refine (Dv.spf (unhide HG1) hV0 hq1).mono ?_
      rintro e V1 ⟨rfl, hV1⟩
      clear hV0
      go_wp2_with fail
      refine (Dv.spf (unhide HG2) hV1 hq2).mono ?_
      rintro e V2 ⟨rfl, hV2⟩
      clear hV1
      go_wp2_with fail
      refine (Dv.imf (unhide HG1) hV2 hq1).mono ?_
      rintro e V3 ⟨rfl, hV3⟩
      clear hV2
      go_wp2_with fail
      refine (Dv.spf (unhide HG1) hV3 hq1).mono ?_
      rintro e V4 ⟨rfl, hV4⟩
      clear hV3
      go_wp2_with fail
      refine (Dv.imf (unhide HG2) hV4 hq2).mono ?_
      rintro e V5 ⟨rfl, hV5⟩
      clear hV4
      go_wp2_with fail
      refine (Dv.spf (unhide HG2) hV5 hq2).mono ?_
      rintro e V6 ⟨rfl, hV6⟩
      clear hV5
      go_wp2_with fail
      refine (Dv.imf (unhide HG3) hV6 hq3).mono ?_
      rintro e V7 ⟨rfl, hV7⟩
      clear hV6
      go_wp2_with fail
      refine (Dv.spf (unhide HG3) hV7 hq3).mono ?_
      rintro e V8 ⟨rfl, hV8⟩
      clear hV7
      go_wp2_with fail
      go_ret
      exact ⟨rfl, unhide FIN _ hV8⟩
  · have z1 : (q1 == 0) = false := by simp [z1]
    have e1 : (q1 == q1) = true := beq_self_eq_true _
    have e2 : (q2 == q2) = true := beq_self_eq_true _
    have e3 : (q3 == q3) = true := beq_self_eq_true _
    go_wp2_with fail
    refine (Dv.spf (unhide HG1) hV0 hq1).mono ?_
    rintro e V1 ⟨rfl, hV1⟩
    clear hV0
    go_wp2_with fail
    refine (Dv.imf (unhide HG1) hV1 hq1).mono ?_
    rintro e V2 ⟨rfl, hV2⟩
    clear hV1
    go_wp2_with fail
    refine (Dv.spf (unhide HG1) hV2 hq1).mono ?_
    rintro e V3 ⟨rfl, hV3⟩
    clear hV2
    go_wp2_with fail
    refine (Dv.imf (unhide HG2) hV3 hq2).mono ?_
    rintro e V4 ⟨rfl, hV4⟩
    clear hV3
    go_wp2_with fail
    refine (Dv.spf (unhide HG2) hV4 hq2).mono ?_
    rintro e V5 ⟨rfl, hV5⟩
    clear hV4
    go_wp2_with fail
    refine (Dv.imf (unhide HG3) hV5 hq3).mono ?_
    rintro e V6 ⟨rfl, hV6⟩
    clear hV5
    go_wp2_with fail
    refine (Dv.spf (unhide HG3) hV6 hq3).mono ?_
    rintro e V7 ⟨rfl, hV7⟩
    clear hV6
    go_wp2_with fail
    go_ret
    exact ⟨rfl, unhide FIN _ hV7⟩

namespace lawOrders
theorem own : ownKnob Try.prog.godebug = none := by kernel_rfl
theorem laidOut : laidOutB Try.prog = true := by kernel_rfl

set_option maxRecDepth 100000 in
theorem lifted (os : Os) (started : os.Started) (H : Type) (enc : TypeId × Value → H) :
    ReturnsInHanded {} Try.checked os 3 .any (Rows.fnOrdersSpec.pre6 enc Try.prog Try.f3 Rows.fnOrdersRow.domain false) (Rows.fnOrdersSpec.post enc Try.prog Try.f3 false true false false) := by
  refine returnsInHanded_of_change (C := Try.checked) own started (by kernel_rfl) Try.func3
    (ChangeSpec.witness6 (enc := enc) (C := Try.checked) false ⟨#[], #[.slice none 0 0], []⟩ 8 (by kernel_rfl) (by kernel_rfl) (by kernel_rfl) (by kernel_rfl)) ?_
  intro W base args ds gs before hval0 hW hcnd _
  have hval : ∀ (j : Nat) t v, Try.f3.params[j]? = some t → args[j]? = some v → Value.okWide Try.prog W .any base t v := hval0
  have hW' := hW
  obtain ⟨p, q, hA0, hV, rfl, hfz, hnd⟩ := hW
  have hA : DataW.TrodAll enc Try.prog W 0 (fun _ => true) true Try.f3.params.toList args.toList ds p := hA0
  rw [Try.params3] at hA hval
  obtain ⟨v0, vs0, d0, ds0, p0, q0, hargs, rfl, rfl, h0, r0⟩ := trodAll_cons hA
  obtain ⟨rfl, rfl, rfl⟩ := trodAll_nil r0
  obtain rfl : args = #[v0] := by cases args; simp_all
  obtain ⟨rfl, rfl⟩ := trodVars_none hV
  obtain ⟨a0, len0, cap0, rfl⟩ := okWide_slice Try.underlying22 (hval 0 22 v0 rfl rfl)
  have k0 := h0
  have lt0 : ∀ x ∈ p0, x.block < W.heap.size := by obtain ⟨m, hm⟩ := k0; exact DataW.trod_lt m _ _ _ hm
  have w0 : BytR W a0 len0 cap0 := by
    obtain ⟨fuel, hf⟩ := h0
    exact open_bytR hf
  clear hA0 hval0
  refine (lawOrders_walk a0 len0 cap0 W w0).mono fun e W' ⟨he, bel⟩ => ?_
  subst he
  exact ⟨_, rfl, _, _, _, [], _, [], hW', trodAll_mk1 (shut_bool Try.underlying4 _), (trodAll_cons_mk (Below.trod laidOut (by kernel_rfl) (of_decide_eq_true (by kernel_rfl)) k0 bel lt0) trodAll_mk0), rfl, bel.frame _, fun h => by cases h⟩

theorem over : Rows.fnOrdersRow.holds Try.pinned (OpenSpec.ofChange Rows.fnOrdersSpec) :=
  OpenClaim.holds_of_wide 3 Try.f3 rfl rfl rfl rfl rfl rfl rfl ⟨rfl, rfl, rfl, rfl, rfl⟩ rfl rfl rfl rfl rfl (by kernel_rfl) Try.func3 (by kernel_rfl)
    (of_decide_eq_true (by kernel_rfl)) (by unfold Func.isWrapper; first | (rw [if_pos (by decide +kernel)]; kernel_rfl) | (rw [if_neg (by decide +kernel)]; exact ⟨rfl, rfl⟩))
    (fun os started H enc _ => lifted os started H enc)
end lawOrders

/-- The statement. -/
theorem lawOrders_holds : Rows.FnOrdersSaid := lawOrders.over
#print axioms lawOrders_holds

end Go.Proofs.Ythbiclpifeobkaa
