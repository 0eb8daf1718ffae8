/-
  Proved: whatever bytes it is given, laws.FnTexts returns true: a value is read back from its text, with blanks around it, too. The library's listed variables are tied.
-/
import Derived.Test.YtikeffckhklhbaaGreatDoorX24
import Derived.Test.YtikeffckhklhbaaGreatDoorX37
import Derived.Test.YtikeffckhklhbaaGreatDoorX39
import Derived.Test.YtikeffckhklhbaaGreatDoorX48
import Derived.ChangeOld
import Derived.Deep.RegionHeld3
import Derived.LaidHandle
import Derived.LaidLaws
import Derived.LaidMore
import Derived.Lib.AppendIntMem
import Derived.Lib.LaidTab
import Derived.Lib.SmallJoins
import Derived.MakeChecks
import Derived.OpenShut
import Derived.ProofKit
import Derived.SevenTiedAt
import Derived.ShutString
import Derived.Stop.Joined
import Derived.Stop.LaidErr
import Derived.Test.YtikeffckhklhbaaGreatDoorCards
import Derived.Test.YtikeffckhklhbaaGreatDoorTie
namespace Go.Proofs.YtikeffckhklhbaaGreatDoor
open Go.ChangeShapes Go.WideShapes Go.ChangeAt Go.RowKit
set_option linter.unusedVariables false
set_option linter.unusedSimpArgs false
namespace Tx
theorem rowedQ {w : World} {B : Nat} {s : Value} {l : List M.Cl} (h : Res w B s l) (hne : l ≠ []) : ∃ b cap, s = .slice (some ⟨b, 0, none⟩) l.length cap ∧ l.length ≤ cap ∧ B ≤ b ∧ b < w.heap.size ∧ Row w b 0 l := by
  obtain ⟨_, h1 | ⟨b, cap, h1, h2, h3, h4⟩⟩ := h
  · exact absurd h1.2 hne
  · exact ⟨b, cap, h1, h3, h2, h4.lt, h4.row⟩
theorem enc_len {p : List M.Cl} (hv : M.valueFault p = 0) : (J.encL 200 p).length ≤ 80000 := by
  have hl := (M.fault_zero hv).1
  have hpl : (part p 0).length ≤ 200 := by have := part_len hv (show 0 < p.length by omega); have := (end_gt hv (show 0 < p.length by omega)).2; have := (M.fault_zero hv).2.1; omega
  rw [← J.encL_whole 199 hv (by omega)]
  exact J.enc_bd 200 hv (by omega) hpl
/-- What stands of the text of a value. -/
structure Txt (l : List M.Cl) (t : ByteArray) : Prop where
  size : t.size ≤ 80000
  back : t.size ≤ 4000 → J.decOut t = (0, 0, l)
  big : 4000 < t.size → J.decOut t = (2, 0, [])
  back2 : t.size + 2 ≤ 4000 → J.decOut (({ data := #[32] } : ByteArray) ++ t ++ { data := #[10] }) = (0, 0, l)
  big2 : 4000 < t.size + 2 → J.decOut (({ data := #[32] } : ByteArray) ++ t ++ { data := #[10] }) = (2, 0, [])
  size2 : (({ data := #[32] } : ByteArray) ++ t ++ { data := #[10] }).size = t.size + 2
theorem txt_of {l : List M.Cl} (hv : M.valueFault l = 0) : Txt l (J.bytes (J.encL 200 l)) := by
  have hb2 : (({ data := #[32] } : ByteArray) ++ J.bytes (J.encL 200 l) ++ { data := #[10] }) = J.bytes ([32] ++ J.encL 200 l ++ [10]) := by
    show J.bytes [32] ++ J.bytes (J.encL 200 l) ++ J.bytes [10] = _
    rw [J.bytes_append, J.bytes_append]
  have hsz : (J.bytes ([32] ++ J.encL 200 l ++ [10])).size = (J.bytes (J.encL 200 l)).size + 2 := by rw [J.bytes_size, J.bytes_size]; simp
  have bl : ∀ c : UInt8, c = 32 ∨ c = 10 → J.blank c = true := fun c h => by rcases h with rfl | rfl <;> decide
  refine ⟨by rw [J.bytes_size]; exact enc_len hv, fun h => ?_, fun h => by unfold J.decOut; rw [if_pos h], fun h => ?_, fun h => ?_, by rw [hb2, hsz]⟩
  · have := J.dec_enc hv [] [] (fun x hx => by simp at hx) (fun x hx => by simp at hx) (by simpa using h)
    simpa using this
  · rw [hb2]
    exact J.dec_enc hv [32] [10] (fun x hx => bl x (.inl (List.mem_singleton.1 hx))) (fun x hx => bl x (.inr (List.mem_singleton.1 hx))) (by rw [hsz]; exact h)
  · rw [hb2]; unfold J.decOut; rw [if_pos (by rw [hsz]; exact h)]
end Tx
set_option maxRecDepth 100000 in
set_option maxHeartbeats 4000000 in
theorem drawTexts_any (a : Option Addr) (len cap : Nat) (w : World) (hB : Byts w a len cap) (hl : len ≤ 1048600) : Calls Tryz.prog 6 #[.slice a len cap] w fun e w' => ∃ s l, e = .returned s ∧ Dv.Got w' w.heap.size s l ∧ Below w.heap.size w w' := by
  have HS := hide (l1Source_any a len cap w hB.2 hB.1 hl)
  clear hB
  go_enter Tryz.func6, Tryz.ntmps6
  go_wp2_with fail
  refine (unhide HS).mono ?_
  rintro e w1 ⟨rfl, S1, B1⟩
  go_wp2_with fail
  refine (l1Bent_any w.heap.size len cap 0 a w1 S1 (by omega)).mono ?_
  rintro e w2 ⟨s, l, at2, rfl, hr, hl3, hok, S2, _, T2, g, gc, rfl⟩
  have BF : Below w.heap.size w w2 := B1.trans (T2.below B1.size (Nat.le_refl _))
  have HG := hide (show Dv.Got w2 w.heap.size (.slice (some ⟨g, 0, none⟩) l.length gc) l from ⟨⟨g, gc, rfl⟩, hr.mono B1.size, hl3, hok⟩)
  clear hr hok S1 S2 T2
  go_wp2_with fail
  go_ret
  exact ⟨_, l, rfl, unhide HG, BF⟩

set_option maxRecDepth 100000 in
set_option maxHeartbeats 8000000 in
theorem lawTexts_walk (a : Option Addr) (len cap : Nat) (w : World) (hB : Byts w a len cap) (htab : Lib.TabIs Tryz.prog w "internal/strconv.uint64pow10" .u64 Lib.pow10Tab) (hG : Gs w) :
    Calls Tryz.prog 3 #[.slice a len cap] w fun e w' => e = .returned (.bool true) ∧ Below w.heap.size w w' := by
  by_cases hbig : 1048576 < len
  · go_enter Tryz.func3, Tryz.ntmps3
    go_wp2_with fail
    refine (lwBig_any a len cap _).mono ?_
    rintro e w1 ⟨rfl, hw1⟩
    rw [hw1, decide_eq_true hbig]
    clear hw1
    go_wp2_with fail
    go_ret
    exact ⟨rfl, Below.refl _ _⟩
  have HD := hide (drawTexts_any a len cap w hB (by omega))
  have HT := hide (Lib.tabBelow_of_tabIs htab)
  have HG := hide hG
  clear hB htab hG
  go_enter Tryz.func3, Tryz.ntmps3
  go_wp2_with fail
  refine (lwBig_any a len cap _).mono ?_
  rintro e w1 ⟨rfl, hw1⟩
  rw [hw1, decide_eq_false hbig]
  clear hw1
  go_wp2_with fail
  refine (unhide HD).mono ?_
  rintro e V0 ⟨s1, l, rfl, G1, BW⟩
  have FIN := hide (fun (V : World) (hV : Below V0.heap.size V0 V) => BW.trans (hV.mono BW.size))
  obtain ⟨g1, c1, rfl, hg1, hc1, hrow1⟩ := G1.at
  have hok := G1.2.2.2
  have hl3 := G1.2.2.1
  have HEN := implEncode_any l g1 0 c1 V0 hrow1 hg1 (by omega) hc1 hok (fun w' hb' => (unhide HT) w' (BW.trans (hb'.mono BW.size)))
  have HRW := hide (fun (V : World) (hV : Below V0.heap.size V0 V) => (show Row V g1 0 l ∧ g1 < V.heap.size from ⟨hrow1.below hV hg1, Nat.lt_of_lt_of_le hg1 hV.size⟩))
  have HDE := hide (fun (t : ByteArray) (V : World) (hV : Below V0.heap.size V0 V) (hs : t.size ≤ 1048576) => impl_DecodeValue t V hs ((unhide HG).below ((unhide FIN) V hV)))
  have HVF := hide (fun (V : World) (hV : Below V0.heap.size V0 V) => specFault_any l g1 0 c1 V (hrow1.below hV hg1) (Nat.lt_of_lt_of_le hg1 hV.size) (by omega) hc1 hok)
  clear HD BW G1 HT HG
  by_cases hv : M.valueFault l = 0
  · have X := Tx.txt_of hv
    rw [encV_ok hv] at HEN
    simp only at HEN
    have HEN := hide HEN
    have hl1 : l ≠ [] := by intro e; have := (M.fault_zero hv).1; rw [e] at this; simp at this
    have hl2 := (M.fault_zero hv).2.1
    have HOK := hide hok
    have HSAME := hide (show sameOut l l = true by rw [Od.same_eq hv hv, Od.out_self hv]; rfl)
    clear hrow1 hok hv HVF
    generalize J.bytes (J.encL 200 l) = t at *
    have hts := X.size
    have HX := hide X
    have htI : (t.size : Int) ≤ 80000 := by omega
    clear X
    go_wp2_with fail
    refine (unhide HEN).mono ?_
    rintro e V1 ⟨rfl, hb1⟩
    obtain ⟨W2, hW2⟩ : ∃ W2, W2 = V1.alloc (.cells #[.int .i64 0, .string t] 27) := ⟨_, rfl⟩
    have b12 : Below V1.heap.size V1 W2 := by rw [hW2]; exact (Below.refl _ _).alloc (Nat.le_refl _) _
    have O2 : Own W2 V1.heap.size 27 [.int .i64 0, .string t] := by rw [hW2]; exact ⟨_, heap_alloc_new _ _, rfl⟩
    go_upto_region 5 with fail
    rw [← hW2]
    clear hW2
    have B2 : Below V0.heap.size V0 W2 := hb1.trans (b12.mono hb1.size)
    have HO2 := hide O2
    clear hb1 b12 HEN
    have p0 := O2.cell 0
    have p1 := O2.cell 1
    simp only [List.getElem?_cons_zero, List.getElem?_cons_succ] at p0 p1
    clear O2
    have HD2 := (unhide HDE) t W2 B2 (by omega)
    by_cases hbg : 4000 < t.size
    · rw [(unhide HX).big hbg] at HD2
      have HD2 := hide HD2
      have hbI : (4000 : Int) < (t.size : Int) := by omega
      clear HX HDE
      go_wp2_with fail
      refine (unhide HD2).mono ?_
      rintro e V3 ⟨s3, rfl, hr3, hb3⟩
      obtain ⟨a3, n3, c3, rfl⟩ := hr3.shape
      simp only
      clear p0 p1 hr3 HD2
      obtain ⟨W4, hW4⟩ : ∃ W4, W4 = V3.alloc (.cells #[.int .i64 2, .int .i64 0, .slice a3 n3 c3] 31) := ⟨_, rfl⟩
      have b34 : Below V3.heap.size V3 W4 := by rw [hW4]; exact (Below.refl _ _).alloc (Nat.le_refl _) _
      have O4 : Own W4 V3.heap.size 31 [.int .i64 2, .int .i64 0, .slice a3 n3 c3] := by rw [hW4]; exact ⟨_, heap_alloc_new _ _, rfl⟩
      go_upto_region 8 with fail
      rw [← hW4]
      clear hW4
      have b24 := hb3.trans (b34.mono hb3.size)
      have O2 := (unhide HO2).below b24 (unhide HO2).lt
      have p0 := O2.cell 0
      have p1 := O2.cell 1
      simp only [List.getElem?_cons_zero, List.getElem?_cons_succ] at p0 p1
      have q0 := O4.cell 0
      have q1 := O4.cell 1
      have q2 := O4.cell 2
      simp only [List.getElem?_cons_zero, List.getElem?_cons_succ] at q0 q1 q2
      clear O2 O4 b34 hb3
      go_wp2_with fail
      go_ret
      exact ⟨ret_bool (by simp), unhide FIN _ (B2.trans (b24.mono B2.size))⟩
    · rw [(unhide HX).back (by omega)] at HD2
      have HD2 := hide HD2
      have hbI : ¬ (4000 : Int) < (t.size : Int) := by omega
      go_wp2_with fail
      refine (unhide HD2).mono ?_
      rintro e V3 ⟨s3, rfl, hr3, hb3⟩
      obtain ⟨b3, c3, rfl, hc3, _, hlt3, hrw3⟩ := Tx.rowedQ hr3 hl1
      simp only
      clear p0 p1 hr3 HD2
      obtain ⟨W4, hW4⟩ : ∃ W4, W4 = V3.alloc (.cells #[.int .i64 0, .int .i64 0, .slice (some ⟨b3, 0, none⟩) l.length c3] 31) := ⟨_, rfl⟩
      have b34 : Below V3.heap.size V3 W4 := by rw [hW4]; exact (Below.refl _ _).alloc (Nat.le_refl _) _
      have O4 : Own W4 V3.heap.size 31 [.int .i64 0, .int .i64 0, .slice (some ⟨b3, 0, none⟩) l.length c3] := by rw [hW4]; exact ⟨_, heap_alloc_new _ _, rfl⟩
      go_upto_region 8 with fail
      rw [← hW4]
      clear hW4
      have b24 := hb3.trans (b34.mono hb3.size)
      have B4 : Below V0.heap.size V0 W4 := B2.trans (b24.mono B2.size)
      have O2 := (unhide HO2).below b24 (unhide HO2).lt
      have p0 := O2.cell 0
      have p1 := O2.cell 1
      simp only [List.getElem?_cons_zero, List.getElem?_cons_succ] at p0 p1
      have HO4 := hide O4
      have HO24 := hide O2
      have hts2 := (unhide HX).size2
      have HR3 := hide (fun V (hV : Below W4.heap.size W4 V) => (show Row V b3 0 l ∧ b3 < V.heap.size from ⟨(hrw3.below b34 hlt3).below hV (Nat.lt_of_lt_of_le hlt3 b34.size), Nat.lt_of_lt_of_le (Nat.lt_of_lt_of_le hlt3 b34.size) hV.size⟩))
      have HD4 := (unhide HDE) _ W4 B4 (show (({ data := #[32] } : ByteArray) ++ t ++ { data := #[10] }).size ≤ 1048576 by omega)
      have hs1 : (({ data := #[32] } : ByteArray) ++ t).size = t.size + 1 := by rw [ByteArray.size_append]; show 1 + t.size = t.size + 1; omega
      clear hrw3 hlt3 b34 hb3 O2 O4 HDE
      by_cases hb2 : t.size + 2 ≤ 4000
      · rw [(unhide HX).back2 hb2] at HD4
        have HD4 := hide HD4
        clear HX
        go_wp2_with fail
        refine (unhide HD4).mono ?_
        rintro e V5 ⟨s5, rfl, hr5, hb5⟩
        obtain ⟨b5, c5, rfl, hc5, _, hlt5, hrw5⟩ := Tx.rowedQ hr5 hl1
        simp only
        clear p0 p1 hr5 HD4
        obtain ⟨W6, hW6⟩ : ∃ W6, W6 = V5.alloc (.cells #[.int .i64 0, .int .i64 0, .slice (some ⟨b5, 0, none⟩) l.length c5] 31) := ⟨_, rfl⟩
        have b56 : Below V5.heap.size V5 W6 := by rw [hW6]; exact (Below.refl _ _).alloc (Nat.le_refl _) _
        have O6 : Own W6 V5.heap.size 31 [.int .i64 0, .int .i64 0, .slice (some ⟨b5, 0, none⟩) l.length c5] := by rw [hW6]; exact ⟨_, heap_alloc_new _ _, rfl⟩
        go_upto_region 11 with fail
        rw [← hW6]
        clear hW6
        have b46 : Below W4.heap.size W4 W6 := hb5.trans (b56.mono hb5.size)
        have B6 : Below V0.heap.size V0 W6 := B4.trans (b46.mono B4.size)
        have O2 := (unhide HO24).below b46 (unhide HO24).lt
        have O4 := (unhide HO4).below b46 (unhide HO4).lt
        have HO6 := hide O6
        have p0 := O2.cell 0
        have p1 := O2.cell 1
        simp only [List.getElem?_cons_zero, List.getElem?_cons_succ] at p0 p1
        have q0 := O4.cell 0
        have q1 := O4.cell 1
        have q2 := O4.cell 2
        simp only [List.getElem?_cons_zero, List.getElem?_cons_succ] at q0 q1 q2
        have r0 := O6.cell 0
        have r1 := O6.cell 1
        have r2 := O6.cell 2
        simp only [List.getElem?_cons_zero, List.getElem?_cons_succ] at r0 r1 r2
        have HR5 := hide (fun V (hV : Below W6.heap.size W6 V) => (show Row V b5 0 l ∧ b5 < V.heap.size from ⟨(hrw5.below b56 hlt5).below hV (Nat.lt_of_lt_of_le hlt5 b56.size), Nat.lt_of_lt_of_le (Nat.lt_of_lt_of_le hlt5 b56.size) hV.size⟩))
        clear hrw5 hlt5
        obtain ⟨hra, hrb⟩ := (unhide HR3) W6 b46
        obtain ⟨hla, hlb⟩ := (unhide HRW) W6 B6
        have HSM := hide (implSame_any l l b3 0 c3 g1 0 c1 W6 hra hrb (by omega) hc3 (unhide HOK) hla hlb (by omega) hc1 (unhide HOK))
        rw [unhide HSAME] at HSM
        clear hra hrb hla hlb
        have eI : ¬ ((4000 : Int) < (t.size : Int) + 2) := by omega
        have eW : IntKind.i64.wrap ((t.size : Int) + 2) = (t.size : Int) + 2 := IntWalk.i64_in _ ⟨by omega, by omega⟩
        have HB46 := hide b46
        clear b56 hb5 b46 O2 O4 O6
        go_wp2_with fail
        refine (unhide HSM).mono ?_
        rintro e V7 ⟨rfl, hb7⟩
        have B7 : Below V0.heap.size V0 V7 := B6.trans (hb7.mono B6.size)
        have b47 : Below W4.heap.size W4 V7 := (unhide HB46).trans (hb7.mono (unhide HB46).size)
        have O2 := (unhide HO24).below b47 (unhide HO24).lt
        have O4 := (unhide HO4).below b47 (unhide HO4).lt
        have O6 := (unhide HO6).below hb7 (unhide HO6).lt
        clear p0 p1 q0 q1 q2 r0 r1 r2
        have p0 := O2.cell 0
        have p1 := O2.cell 1
        simp only [List.getElem?_cons_zero, List.getElem?_cons_succ] at p0 p1
        have q0 := O4.cell 0
        have q1 := O4.cell 1
        have q2 := O4.cell 2
        simp only [List.getElem?_cons_zero, List.getElem?_cons_succ] at q0 q1 q2
        have r0 := O6.cell 0
        have r1 := O6.cell 1
        have r2 := O6.cell 2
        simp only [List.getElem?_cons_zero, List.getElem?_cons_succ] at r0 r1 r2
        clear HSM
        obtain ⟨hra, hrb⟩ := (unhide HR5) V7 hb7
        obtain ⟨hla, hlb⟩ := (unhide HRW) V7 B7
        have HSM := hide (implSame_any l l b5 0 c5 g1 0 c1 V7 hra hrb (by omega) hc5 (unhide HOK) hla hlb (by omega) hc1 (unhide HOK))
        rw [unhide HSAME] at HSM
        clear hra hrb hla hlb
        clear O2 O4 O6 b47 hb7
        go_wp2_with fail
        refine (unhide HSM).mono ?_
        rintro e V8 ⟨rfl, hb8⟩
        go_wp2_with fail
        go_ret
        exact ⟨ret_bool (by simp), unhide FIN _ (B7.trans (hb8.mono B7.size))⟩
      · rw [(unhide HX).big2 (by omega)] at HD4
        have HD4 := hide HD4
        clear HX
        go_wp2_with fail
        refine (unhide HD4).mono ?_
        rintro e V5 ⟨s5, rfl, hr5, hb5⟩
        obtain ⟨a5, n5, c5, rfl⟩ := hr5.shape
        simp only
        clear p0 p1 hr5 HD4
        obtain ⟨W6, hW6⟩ : ∃ W6, W6 = V5.alloc (.cells #[.int .i64 2, .int .i64 0, .slice a5 n5 c5] 31) := ⟨_, rfl⟩
        have b56 : Below V5.heap.size V5 W6 := by rw [hW6]; exact (Below.refl _ _).alloc (Nat.le_refl _) _
        have O6 : Own W6 V5.heap.size 31 [.int .i64 2, .int .i64 0, .slice a5 n5 c5] := by rw [hW6]; exact ⟨_, heap_alloc_new _ _, rfl⟩
        go_upto_region 11 with fail
        rw [← hW6]
        clear hW6
        have b46 : Below W4.heap.size W4 W6 := hb5.trans (b56.mono hb5.size)
        have B6 : Below V0.heap.size V0 W6 := B4.trans (b46.mono B4.size)
        have O2 := (unhide HO24).below b46 (unhide HO24).lt
        have O4 := (unhide HO4).below b46 (unhide HO4).lt
        have HO6 := hide O6
        have p0 := O2.cell 0
        have p1 := O2.cell 1
        simp only [List.getElem?_cons_zero, List.getElem?_cons_succ] at p0 p1
        have q0 := O4.cell 0
        have q1 := O4.cell 1
        have q2 := O4.cell 2
        simp only [List.getElem?_cons_zero, List.getElem?_cons_succ] at q0 q1 q2
        have r0 := O6.cell 0
        have r1 := O6.cell 1
        have r2 := O6.cell 2
        simp only [List.getElem?_cons_zero, List.getElem?_cons_succ] at r0 r1 r2
        obtain ⟨hra, hrb⟩ := (unhide HR3) W6 b46
        obtain ⟨hla, hlb⟩ := (unhide HRW) W6 B6
        have HSM := hide (implSame_any l l b3 0 c3 g1 0 c1 W6 hra hrb (by omega) hc3 (unhide HOK) hla hlb (by omega) hc1 (unhide HOK))
        rw [unhide HSAME] at HSM
        clear hra hrb hla hlb
        have eI :  ((4000 : Int) < (t.size : Int) + 2) := by omega
        have eW : IntKind.i64.wrap ((t.size : Int) + 2) = (t.size : Int) + 2 := IntWalk.i64_in _ ⟨by omega, by omega⟩
        have HB46 := hide b46
        clear b56 hb5 b46 O2 O4 O6
        go_wp2_with fail
        refine (unhide HSM).mono ?_
        rintro e V7 ⟨rfl, hb7⟩
        have B7 : Below V0.heap.size V0 V7 := B6.trans (hb7.mono B6.size)
        have b47 : Below W4.heap.size W4 V7 := (unhide HB46).trans (hb7.mono (unhide HB46).size)
        have O2 := (unhide HO24).below b47 (unhide HO24).lt
        have O4 := (unhide HO4).below b47 (unhide HO4).lt
        have O6 := (unhide HO6).below hb7 (unhide HO6).lt
        clear p0 p1 q0 q1 q2 r0 r1 r2
        have p0 := O2.cell 0
        have p1 := O2.cell 1
        simp only [List.getElem?_cons_zero, List.getElem?_cons_succ] at p0 p1
        have q0 := O4.cell 0
        have q1 := O4.cell 1
        have q2 := O4.cell 2
        simp only [List.getElem?_cons_zero, List.getElem?_cons_succ] at q0 q1 q2
        have r0 := O6.cell 0
        have r1 := O6.cell 1
        have r2 := O6.cell 2
        simp only [List.getElem?_cons_zero, List.getElem?_cons_succ] at r0 r1 r2
        clear O2 O4 O6 b47 hb7 HSM
        go_wp2_with fail
        go_ret
        exact ⟨ret_bool (by simp), unhide FIN _ B7⟩
  · have hbad : encV l = (M.valueFault l, ByteArray.empty) := encV_no hv
    rw [hbad] at HEN
    simp only at HEN
    obtain ⟨q, hq⟩ : ∃ q, q = M.valueFault l := ⟨_, rfl⟩
    rw [← hq] at hv HVF HEN
    have g0 : (q != 0) = true := by simpa using hv
    have HEN := hide HEN
    clear hbad hq hrow1 hok
    go_wp2_with fail
    refine (unhide HEN).mono ?_
    rintro e V1 ⟨rfl, hb2⟩
    obtain ⟨w3, hw3⟩ : ∃ w3, w3 = V1.alloc (.cells #[.int .i64 q, .string ByteArray.empty] 27) := ⟨_, rfl⟩
    have O3 : Own w3 V1.heap.size 27 [.int .i64 q, .string ByteArray.empty] := by rw [hw3]; exact ⟨_, heap_alloc_new _ _, rfl⟩
    have B3 : Below V0.heap.size V0 w3 := by rw [hw3]; exact hb2.alloc hb2.size _
    have c0 := O3.cell 0
    simp only [List.getElem?_cons_zero] at c0
    clear hb2 HEN
    go_upto_region 5 with fail
    rw [← hw3]
    clear hw3
    go_wp2_with fail
    go_region_with (go_at_call 8; refine ((unhide HVF) _ B3.drew).mono ?_; rintro e w4 ⟨rfl, hb4⟩; simp only; have cc := ((show Own w3.drew V1.heap.size 27 [.int .i64 q, .string ByteArray.empty] from O3).below hb4 O3.lt).cell 0; simp only [List.getElem?_cons_zero] at cc)
    all_goals
      go_wp2_with fail
      go_ret
      exact ⟨ret_bool (by simp), unhide FIN _ (B3.drew.trans (hb4.mono B3.size))⟩

namespace lawTexts
theorem own : ownKnob Tryz.prog.godebug = none := by kernel_rfl
theorem laidOut : laidOutB Tryz.prog = true := by kernel_rfl
theorem gTab : Tryz.prog.globalNamed "internal/strconv.uint64pow10" = some 2 := by kernel_rfl
theorem gTabType : (Tryz.prog.globals[2]?).map (·.type) = some 161 := by kernel_rfl
theorem tabData_is : (Rows.laid_internal_strconv_uint64pow10 : DataW Unit) = Lib.tabData .u64 Lib.pow10Tab := by kernel_rfl
theorem gER : Tryz.prog.globalNamed "strconv.ErrRange" = some 6 := by kernel_rfl
theorem gERType : (Tryz.prog.globals[6]?).map (·.type) = some 51 := by kernel_rfl
theorem cellsE : Tryz.prog.cellsOf 192 = 1 := by kernel_rfl
theorem cellsS : Tryz.prog.cellsOf 9 = 1 := by kernel_rfl
theorem star : "*" ++ "errors.errorString" = "*errors.errorString" := by decide
theorem rowE (u : TypeId) (h : Tryz.prog.typeName? 3 u = some "*errors.errorString") : u = 190 :=
  typeName_ptr_named (nm := "errors.errorString") (by rw [star]; kernel_rfl) (by kernel_rfl) (by decide) u (by rw [star]; exact h)
theorem et : Tryz.prog.globalNamed "errors.errorType" = some 0 := by kernel_rfl
theorem rt : (Tryz.prog.cutTypes.find? (·.1 == "internal/reflectlite.rtype")).map (·.2) = some 113 := by kernel_rfl
theorem oneRow : ((List.range 222).filter fun t => Tryz.prog.rowNamed t [101, 114, 114, 111, 114]) = [51] := by kernel_rfl
theorem size : Tryz.prog.types.size = 222 := by kernel_rfl
theorem handle : typeHandle Tryz.prog 51 = .pointer (some ⟨7, 51, none⟩) := by kernel_rfl
/-- The condition's two parts. -/
theorem parts {W : World} (h : laidMetH Tryz.prog Rows.fnTextsRow.laid W) : laidMet Tryz.prog (Rows.fnTextsRow.laid.filter fun x => x.2.handleName?.isNone) W ∧ handlesMet Tryz.prog (Rows.fnTextsRow.laid.filter fun x => x.2.handleName?.isSome) W := by
  unfold laidMetH at h
  have e : (Rows.fnTextsRow.laid.filter fun x => x.2.handleName?.isSome) = [("errors.errorType", Rows.laid_errors_errorType)] := by kernel_rfl
  rw [e] at h ⊢
  exact h
theorem plain : (Rows.fnTextsRow.laid.filter fun x => x.2.handleName?.isNone) = [("math/bits.deBruijn32tab", Rows.laid_math_bits_deBruijn32tab), ("math/bits.deBruijn64tab", Rows.laid_math_bits_deBruijn64tab), ("internal/strconv.uint64pow10", Rows.laid_internal_strconv_uint64pow10), ("strconv.ErrRange", Rows.laid_strconv_ErrRange), ("strconv.ErrSyntax", Rows.laid_strconv_ErrSyntax)] := by kernel_rfl
theorem lt_of_cell {W : World} {g : Nat} {v : Value} (hc : W.cell? ⟨g, 0, none⟩ = some v) : g < W.heap.size := by
  by_cases hlt : g < W.heap.size
  · exact hlt
  · have hnone : W.heap[g]? = none := Array.getElem?_eq_none (by omega)
    simp [World.cell?, hnone] at hc
/-- What the condition gives the walk: the table, and the cells of two variables. -/
theorem of_laid {W : World} (h : laidMetH Tryz.prog Rows.fnTextsRow.laid W) : Lib.TabIs Tryz.prog W "internal/strconv.uint64pow10" .u64 Lib.pow10Tab ∧ Gs W := by
  obtain ⟨h1, h2⟩ := parts h
  rw [plain] at h1
  have h2t := laidMet.tail (laidMet.tail h1)
  have h2u : laidMet Tryz.prog [("internal/strconv.uint64pow10", Lib.tabData .u64 Lib.pow10Tab), ("strconv.ErrRange", Rows.laid_strconv_ErrRange), ("strconv.ErrSyntax", Rows.laid_strconv_ErrSyntax)] W := by rw [← tabData_is]; exact h2t
  have hTab := Lib.tabIs_of_head gTab gTabType Tryz.underlying161 Tryz.underlying139 (by kernel_rfl) (by kernel_rfl) h2u
  have h3 := laidMet.tail h2t
  obtain ⟨a0, s0, hv0, -, -, -⟩ := laid_sentinel h3 gER gERType Tryz.underlying51 rowE Tryz.underlying190 Tryz.underlying192 rfl rfl Tryz.underlying9 cellsE cellsS
  have h0 := World.var?_cell gER hv0 0
  have hc : W.cell? ⟨6, 0, none⟩ = some (.iface 190 (.pointer (some a0))) := by simpa using h0
  have e : (Rows.fnTextsRow.laid.filter fun x => x.2.handleName?.isSome) = [("errors.errorType", Rows.laid_errors_errorType)] := by kernel_rfl
  rw [e] at h2
  obtain ⟨name, u, ty, e1, e2, e3, e4, e5⟩ := h2 _ (List.mem_singleton.2 rfl)
  have en : name = [101, 114, 114, 111, 114] := (Option.some.inj e1).symm
  subst en
  obtain rfl := Option.some.inj (rt.symm.trans e2)
  have hm : ty ∈ (List.range 222).filter fun t => Tryz.prog.rowNamed t [101, 114, 114, 111, 114] := List.mem_filter.2 ⟨List.mem_range.2 (by rw [← size]; exact e3), e4⟩
  rw [oneRow] at hm
  obtain rfl := List.mem_singleton.1 hm
  rw [handle] at e5
  have ht : W.cell? ⟨0, 0, none⟩ = some (.iface 113 (.agg #[.pointer (some ⟨7, 51, none⟩)])) := by simpa using World.var?_cell et e5 0
  exact ⟨hTab, ⟨_, .inr ⟨_, _, rfl⟩, lt_of_cell hc, hc⟩, lt_of_cell ht, ht⟩

/-- The door's own heap meets the condition. -/
theorem door_met (os : Os) (args : Array Value) : laidMetH Tryz.prog Rows.fnTextsRow.laid ((World.doorLaid Tryz.prog 400 os).forCall (fun _ _ => 0) ⟨#[], args, []⟩).memory :=
  laidMetH_of_parts3 (fuel := 8) (laidMet_of_run' 8 (by kernel_rfl) (by kernel_rfl)) (by kernel_rfl) (by kernel_rfl)

set_option maxRecDepth 100000 in
theorem lifted (os : Os) (started : os.Started) (H : Type) (enc : TypeId × Value → H) :
    ReturnsInHanded {} Tryz.checked os 3 .any (fun w args => (Rows.fnTextsSpec.pre enc Tryz.prog Tryz.f3 [] false w args ∧ laidMetH Tryz.prog Rows.fnTextsRow.laid w) ∧ sizedMet enc Tryz.prog Tryz.f3 (OpenSpec.ofChange Rows.fnTextsSpec) false w args)
      (Rows.fnTextsSpec.post enc Tryz.prog Tryz.f3 false true false false) := by
  refine returnsInHanded_of_change_and (C := Tryz.checked) (X := fun w _ => laidMetH Tryz.prog Rows.fnTextsRow.laid w) (fun _ _ _ hh h => h.of_heap hh) own started (by kernel_rfl) Tryz.func3
    (ChangeSpec.witness_shaped (enc := enc) (C := Tryz.checked) (os := os) (X := fun w _ => laidMetH Tryz.prog Rows.fnTextsRow.laid w) false (World.doorLaid Tryz.prog 400 os) #[.slice none 0 0] 8 rfl (World.shaped_of_RefB (by kernel_rfl) (by kernel_rfl)) (by kernel_rfl) (by kernel_rfl) (by kernel_rfl) (door_met os _)) ?_
  intro W base args ds gs before hval0 hW _ _ hL _
  have hval : ∀ (j : Nat) t v, Tryz.f3.params[j]? = some t → args[j]? = some v → Value.okWide Tryz.prog W .any base t v := hval0
  have hW' := hW
  obtain ⟨p, q, hA0, hV, rfl, hfz, hnd⟩ := hW
  have hA : DataW.TrodAll enc Tryz.prog W 0 (fun _ => true) true Tryz.f3.params.toList args.toList ds p := hA0
  rw [Tryz.params3] at hA hval
  obtain ⟨v0, vs0, d0, ds0, p0, q0, hargs, rfl, rfl, h0, r0⟩ := trodAll_cons hA
  obtain ⟨rfl, rfl, rfl⟩ := trodAll_nil r0
  obtain rfl : args = #[v0] := by cases args; simp_all
  obtain ⟨rfl, rfl⟩ := trodVars_none hV
  obtain ⟨a0, len0, cap0, rfl⟩ := okWide_slice Tryz.underlying22 (hval 0 22 v0 rfl rfl)
  have k0 := h0
  have lt0 : ∀ x ∈ p0, x.block < W.heap.size := by obtain ⟨m, hm⟩ := k0; exact DataW.trod_lt m _ _ _ hm
  have w0 : Byts W a0 len0 cap0 := by
    obtain ⟨fuel, hf⟩ := h0
    exact open_byts hf
  obtain ⟨hT, hGl⟩ := of_laid hL
  clear hA0 hval0
  refine (lawTexts_walk a0 len0 cap0 W w0 hT hGl).mono fun e W' ⟨he, bel⟩ => ?_
  subst he
  exact ⟨_, rfl, _, _, _, [], _, [], hW', trodAll_mk1 (shut_bool Tryz.underlying4 _), (trodAll_cons_mk (Below.trod laidOut (by kernel_rfl) (of_decide_eq_true (by kernel_rfl)) k0 bel lt0) trodAll_mk0), rfl, bel.frame _, fun h => by cases h⟩

theorem over : Rows.FnTextsSaid :=
  OpenClaim.holds_of_wide 3 Tryz.f3 rfl rfl rfl rfl rfl rfl rfl ⟨rfl, rfl, rfl, rfl, rfl⟩ rfl rfl rfl rfl rfl (by kernel_rfl) Tryz.func3 (by kernel_rfl)
    (of_decide_eq_true (by kernel_rfl)) (by unfold Func.isWrapper; first | (rw [if_pos (by decide +kernel)]; kernel_rfl) | (rw [if_neg (by decide +kernel)]; exact ⟨rfl, rfl⟩))
    (fun os started H enc _ => lifted os started H enc)
end lawTexts

/-- The card. -/
theorem lawTexts_holds : Rows.FnTextsCardSaid :=
  Claim7.holds_tied_plain_at .later [] [.data, .data, .data, .handle, .sentinel, .sentinel] true (true, "af24cd98d78f077fe128e4f283515c543c37da24594a2e9aaa1dddc3abfc2f90") true
    lawTexts.over (fun _ h => by cases h) (by kernel_rfl) (fun _ h => by cases h) fnTexts_row_tie rfl ⟨rfl, rfl⟩ (by kernel_rfl) rfl
    (fun f fn hf hfn => by
      obtain rfl : f = 3 := Option.some.inj ((show Tryz.prog.funcNamed Rows.fnTextsRow.func = some 3 by kernel_rfl).symm.trans hf) |>.symm
      obtain rfl : fn = Tryz.f3 := (Option.some.inj (Tryz.func3.symm.trans hfn)).symm
      exact ⟨by kernel_rfl, fun j t ht => by
        rw [Tryz.params3] at ht
        have hm : t ∈ [22] := by simpa using Array.mem_of_getElem? ht
        have hall : ([22].all fun u => !Tryz.prog.wantsStandIn u) = true := by kernel_rfl
        exact (show Tryz.prog.wantsStandIn t = false by simpa using List.all_eq_true.1 hall t hm)⟩)
    (by kernel_rfl)
#print axioms lawTexts_holds
end Go.Proofs.YtikeffckhklhbaaGreatDoor
