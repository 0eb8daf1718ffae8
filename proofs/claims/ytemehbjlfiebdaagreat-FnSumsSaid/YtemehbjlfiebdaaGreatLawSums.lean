/-
  Proved: whatever bytes it is given, laws.FnSums returns true: sums of values go on, a quotient and what it leaves make the number again. No condition.
-/
import Derived.Test.YtemehbjlfiebdaaGreatX08
import Derived.Test.YtemehbjlfiebdaaGreatX30
import Derived.Test.YtemehbjlfiebdaaGreatX39
import Derived.Test.YtemehbjlfiebdaaGreatX40
import Derived.Test.YtemehbjlfiebdaaGreatX51
import Derived.Test.YtemehbjlfiebdaaGreatX52
import Derived.ChangeOld
import Derived.Deep.RegionHeld3
import Derived.OpenShut
import Derived.ProofKit
import Derived.ShutString
namespace Go.Proofs.YtemehbjlfiebdaaGreat
open Go.ChangeShapes Go.WideShapes Go.ChangeAt Go.RowKit
set_option linter.unusedVariables false
set_option linter.unusedSimpArgs false
namespace Sums
theorem fldV (x : Int) (a : Option Addr) (n c : Nat) (w : World) : (Instr.field 28 (.agg #[.int .i64 x, .slice a n c]) 0).run Tryz.prog w = .ok (.int .i64 x) w := by kernel_rfl
theorem fldV1 (x : Int) (a : Option Addr) (n c : Nat) (w : World) : (Instr.field 28 (.agg #[.int .i64 x, .slice a n c]) 1).run Tryz.prog w = .ok (.slice a n c) w := by kernel_rfl
theorem rowed {w : World} {B : Nat} {s : Value} {l : List M.Cl} (h : Res w B s l) (hne : l ≠ []) : ∃ b cap, s = .slice (some ⟨b, 0, none⟩) l.length cap ∧ l.length ≤ cap ∧ b < w.heap.size ∧ Row w b 0 l := by
  obtain ⟨hn, ⟨h1, h2⟩ | ⟨b, cap, h1, h2, h3, h4⟩⟩ := h
  · exact absurd h2 hne
  · exact ⟨b, cap, h1, h3, h4.lt, h4.row⟩
theorem ne_of {l : List M.Cl} (h : M.valueFault l = 0) : l ≠ [] := by intro e; have := (M.fault_zero h).1; rw [e] at this; simp at this
/-- A value as it lies somewhere. -/
structure At (w : World) (b c : Nat) (l : List M.Cl) : Prop where
  row : Row w b 0 l
  lt : b < w.heap.size
  le : l.length ≤ c
  sm : l.length ≤ 1000
  ok : ∀ c ∈ l, c.ok
theorem At.below {w w' : World} {b c : Nat} {l : List M.Cl} (h : At w b c l) (hb : Below w.heap.size w w') : At w' b c l := ⟨h.row.below hb h.lt, Nat.lt_of_lt_of_le h.lt hb.size, h.le, h.sm, h.ok⟩
theorem At.of {w : World} {B : Nat} {s : Value} {l : List M.Cl} (h : Res w B s l) (hv : M.valueFault l = 0) : ∃ b c, s = .slice (some ⟨b, 0, none⟩) l.length c ∧ At w b c l := by
  obtain ⟨b, c, h1, h2, h3, h4⟩ := rowed h (ne_of hv)
  exact ⟨b, c, h1, h4, h3, h2, by have := (M.fault_zero hv).2.1; omega, ok_of_valid hv⟩
theorem At.of2 {w : World} {B : Nat} {s : Value} {l : List M.Cl} (h : Res w B s l) (hv : M.valueFault l = 0) : ∃ b c, s = .slice (some ⟨b, 0, none⟩) l.length c ∧ At w b c l ∧ B ≤ b := by
  obtain ⟨hn, ⟨h1, h2⟩ | ⟨b, cap, h1, h2, h3, h4⟩⟩ := h
  · exact absurd h2 (ne_of hv)
  · exact ⟨b, cap, h1, ⟨h4.row, h4.lt, h3, by have := (M.fault_zero hv).2.1; omega, ok_of_valid hv⟩, h2⟩
theorem at_set {w : World} {b c g j : Nat} {l : List M.Cl} {v : Value} (h : At w b c l) (hne : b ≠ g) : At (w.setCell ⟨g, j, none⟩ v) b c l :=
  ⟨row_blk h.row (heap_setCell_other w _ b v hne), by simpa using h.lt, h.le, h.sm, h.ok⟩
section
variable {V : World} {b c g2 c2 : Nat} {l x r : List M.Cl} {op q : Int}
theorem ib (h1 : At V b c l) (h2 : At V g2 c2 x) (hq : binOut op l x = (q, r)) : Calls Tryz.prog 6 #[.int .i64 op, .slice (some ⟨b, 0, none⟩) l.length c, .slice (some ⟨g2, 0, none⟩) x.length c2] V fun e V' => ∃ s', e = .returned (.agg #[.int .i64 q, s']) ∧ Res V' V.heap.size s' r ∧ Below V.heap.size V V' :=
  (implBinary_any op l b 0 c x g2 0 c2 V h1.row h1.lt (by have := h1.sm; omega) h1.le h1.ok h2.row h2.lt (by have := h2.sm; omega) h2.le h2.ok).mono fun e V' h => by
    rw [hq] at h
    exact h
theorem sb (h1 : At V b c l) (h2 : At V g2 c2 x) (hq : binOut op l x = (q, r)) : Calls Tryz.prog 7 #[.int .i64 op, .slice (some ⟨b, 0, none⟩) l.length c, .slice (some ⟨g2, 0, none⟩) x.length c2] V fun e V' => ∃ s', e = .returned (.agg #[.int .i64 q, s']) ∧ Res V' V.heap.size s' r ∧ Below V.heap.size V V' :=
  (specBinary_any op l b 0 c x g2 0 c2 V h1.row h1.lt (by have := h1.sm; omega) h1.le h1.ok h2.row h2.lt (by have := h2.sm; omega) h2.le h2.ok).mono fun e V' h => by
    rw [hq] at h
    exact h
theorem sm (h1 : At V b c l) (h2 : At V g2 c2 l) (hv : M.valueFault l = 0) : Calls Tryz.prog 11 #[.slice (some ⟨b, 0, none⟩) l.length c, .slice (some ⟨g2, 0, none⟩) l.length c2] V fun e V' => e = .returned (.bool true) ∧ Below V.heap.size V V' := by
  have h := implSame_any l l b 0 c g2 0 c2 V h1.row h1.lt (by have := h1.sm; omega) h1.le h1.ok h2.row h2.lt (by have := h2.sm; omega) h2.le h2.ok
  rw [same_is hv] at h
  exact h
theorem vf (h1 : At V b c l) (hv : M.valueFault l = 0) : Calls Tryz.prog 10 #[.slice (some ⟨b, 0, none⟩) l.length c] V fun e V' => e = .returned (.int .i64 0) ∧ Below V.heap.size V V' := by
  have h := implFault_any l b 0 c V h1.row h1.lt (by have := h1.sm; omega) h1.le h1.ok
  rw [hv] at h
  exact h
theorem tr (h1 : At V b c [boolCl true]) : Calls Tryz.prog 12 #[.slice (some ⟨b, 0, none⟩) 1 c] V fun e V' => e = .returned (.bool true) ∧ Below V.heap.size V V' := by
  have h := implTruthy_any [boolCl true] b 0 c V h1.row h1.lt (by simp) h1.le h1.ok
  rw [true_is] at h
  exact h
theorem nv {n : Int} (h0 : -1000000000000000 ≤ n) (h1 : n ≤ 1000000000000000) : Calls Tryz.prog 9 #[.int .i64 n] V fun e V' => ∃ s', e = .returned (.agg #[.int .i64 0, s']) ∧ Res V' V.heap.size s' [numCl n] ∧ Below V.heap.size V V' := by
  refine (numberValue_any n V).mono fun e V' h => ?_
  rw [num_ok (by omega)] at h
  exact h
theorem lw1 {a : Option Addr} {len cap : Nat} (hB : Byts V a len cap) (hl : len ≤ 1048600) : Calls Tryz.prog 8 #[.slice a len cap, .int .i64 1, .int .i64 9000] V fun e w' => (∃ r : Nat, e = .returned (.int .i64 (r : Int)) ∧ r < 9000) ∧ Below V.heap.size V w' := lwAt_any 1 9000 a len cap V hB hl (by decide) (by decide) (by decide)
theorem lw2 {a : Option Addr} {len cap : Nat} (hB : Byts V a len cap) (hl : len ≤ 1048600) : Calls Tryz.prog 8 #[.slice a len cap, .int .i64 2, .int .i64 90] V fun e w' => (∃ r : Nat, e = .returned (.int .i64 (r : Int)) ∧ r < 90) ∧ Below V.heap.size V w' := lwAt_any 2 90 a len cap V hB hl (by decide) (by decide) (by decide)
theorem at_zero (w : World) : At (w.alloc (.cells #[.int .i64 0, .int .i64 0, .string ByteArray.empty, .string ByteArray.empty, .int .i64 0] 33)) w.heap.size 1 [M.zero] := by
  have hc : ∀ j, (w.alloc (.cells #[.int .i64 0, .int .i64 0, .string ByteArray.empty, .string ByteArray.empty, .int .i64 0] 33)).cell? ⟨w.heap.size, j, none⟩ = (#[.int .i64 0, .int .i64 0, .string ByteArray.empty, .string ByteArray.empty, .int .i64 0] : Array Value)[j]? := fun j => cell_of_row _ _ j _ _ (0, 0) (heap_alloc_new _ _)
  refine ⟨fun i hi => ?_, by simp, by simp, by simp, ok_of_valid zero_ok⟩
  have : i = 0 := by simpa using hi
  subst this
  exact ⟨hc 0, hc 1, hc 2, hc 3, hc 4⟩
end
/-- What is known where the sum goes on. -/
structure Fs (op : Int) (l x R : List M.Cl) : Prop where
  is : binOut op l x = (0, R)
  vl : M.valueFault l = 0
  vR : M.valueFault R = 0
theorem fs_of {op : Int} {l x : List M.Cl} (h : (binOut op l x).1 = 0) : ∃ R, Fs op l x R := by
  have hb : bothOut l x = 0 := by
    by_cases hb : bothOut l x = 0
    · exact hb
    · rw [bin_bad hb] at h; exact absurd h hb
  exact ⟨(binOut op l x).2, by rw [← h], (both_ok hb).1, bin_good op l x h⟩
end Sums

set_option maxRecDepth 100000 in
set_option maxHeartbeats 16000000 in
theorem lawSums_walk (a : Option Addr) (len cap : Nat) (w : World) (hB : BytR w a len cap) :
    Calls Tryz.prog 3 #[.slice a len cap] w fun e w' => e = .returned (.bool true) ∧ Below w.heap.size w w' := by
  by_cases hbig : 1048576 < len
  · go_enter Tryz.func3, Tryz.ntmps3
    go_wp2_with fail
    refine (lwBig_any a len cap _).mono ?_
    rintro e w1 ⟨rfl, hw1⟩
    rw [hw1, decide_eq_true hbig]
    clear hw1
    go_wp2_with fail
    go_ret
    exact ⟨rfl, Below.refl _ _⟩
  have HD := hide (Sums.drawBinary_any a len cap w hB.1 (by omega))
  have HBY := hide (fun (V : World) (hV : Below w.heap.size w V) => (hB.below hV).1)
  have hlen : len ≤ 1048600 := by omega
  clear hB
  go_enter Tryz.func3, Tryz.ntmps3
  go_wp2_with fail
  refine (lwBig_any a len cap _).mono ?_
  rintro e w1 ⟨rfl, hw1⟩
  rw [hw1, decide_eq_false hbig]
  clear hw1
  go_wp2_with fail
  refine (unhide HD).mono ?_
  rintro e V0 ⟨op, s1, l, s2, x, rfl, G1, G2, BW⟩
  have FIN := hide (fun (V : World) (hV : Below V0.heap.size V0 V) => BW.trans (hV.mono BW.size))
  have HBY0 := hide (fun (V : World) (hV : Below V0.heap.size V0 V) => (unhide HBY) V (BW.trans (hV.mono BW.size)))
  obtain ⟨g1, c1, rfl, _, hg1, hc1, hrow1, hl1, hok1⟩ := G1
  obtain ⟨g2, c2, rfl, _, hg2, hc2, hrow2, hl2, hok2⟩ := G2
  have A1 := hide (fun (V : World) (hV : Below V0.heap.size V0 V) => (show Sums.At V g1 c1 l from ⟨hrow1.below hV hg1, Nat.lt_of_lt_of_le hg1 hV.size, hc1, hl1, hok1⟩))
  have A2 := hide (fun (V : World) (hV : Below V0.heap.size V0 V) => (show Sums.At V g2 c2 x from ⟨hrow2.below hV hg2, Nat.lt_of_lt_of_le hg2 hV.size, hc2, hl2, hok2⟩))
  clear HD BW hrow1 hrow2 hok1 hok2 HBY
  by_cases hx : (binOut op l x).1 = 0
  · obtain ⟨R, F⟩ := Sums.fs_of hx
    have HI := hide (Sums.ib ((unhide A1) V0 (Below.refl _ _)) ((unhide A2) V0 (Below.refl _ _)) F.is)
    have HF := hide F
    have hvR := F.vR
    clear hx F
    go_wp2_with fail
    refine (unhide HI).mono ?_
    rintro e V1 ⟨s3, rfl, hr3, hb3⟩
    obtain ⟨b3, c3, rfl, A3⟩ := Sums.At.of hr3 hvR
    obtain ⟨w3, hw3⟩ : ∃ w3, w3 = V1.alloc (.cells #[.int .i64 0, .slice (some ⟨b3, 0, none⟩) R.length c3] 28) := ⟨_, rfl⟩
    have B13 : Below V1.heap.size V1 w3 := by rw [hw3]; exact (Below.refl _ _).alloc (Nat.le_refl _) _
    have B03 : Below V0.heap.size V0 w3 := hb3.trans (B13.mono hb3.size)
    have HO3 := hide (show Own w3 V1.heap.size 28 [.int .i64 0, .slice (some ⟨b3, 0, none⟩) R.length c3] by rw [hw3]; exact ⟨_, heap_alloc_new _ _, rfl⟩)
    have HA3 := hide (A3.below B13)
    have HL1 := hide (Sums.lw1 ((unhide HBY0) w3 B03) hlen)
    have p0 : w3.cell? ⟨V1.heap.size, 0, none⟩ = some (.int .i64 0) := (unhide HO3).cell 0
    rw [hw3] at p0
    clear hr3 hb3 B13 A3 HI
    go_wp2_with fail
    rw [← hw3]
    clear hw3 p0
    refine (unhide HL1).mono ?_
    rintro e w4 ⟨⟨ra, rfl, hra⟩, hb4⟩
    have B04 := B03.trans (hb4.mono B03.size)
    have hwx : IntKind.i64.wrap ((ra : Int) - 4500) = (ra : Int) - 4500 := IntWalk.i64_in _ ⟨by omega, by omega⟩
    obtain ⟨X, hX⟩ : ∃ X : Int, X = (ra : Int) - 4500 := ⟨_, rfl⟩
    have hX0 : -4500 ≤ X ∧ X ≤ 4500 := by omega
    have HL2 := hide (Sums.lw2 ((unhide HBY0) w4 B04) hlen)
    clear HL1
    go_wp2_with fail
    refine (unhide HL2).mono ?_
    rintro e w5 ⟨⟨rb, rfl, hrb⟩, hb5⟩
    have hb35 := hb4.trans (hb5.mono hb4.size)
    have B05 := B04.trans (hb5.mono B04.size)
    have hwy : IntKind.i64.wrap (1 + (rb : Int)) = 1 + (rb : Int) := IntWalk.i64_in _ ⟨by omega, by omega⟩
    obtain ⟨Y, hY⟩ : ∃ Y : Int, Y = 1 + (rb : Int) := ⟨_, rfl⟩
    have hY0 : 1 ≤ Y ∧ Y ≤ 90 := by omega
    have HN1 := hide (Sums.nv (V := w5) (n := (ra : Int) - 4500) (by omega) (by omega))
    clear HL2
    go_wp2_with fail
    refine (unhide HN1).mono ?_
    rintro e w6 ⟨s6, rfl, hr6, hb6⟩
    rw [← hX] at hr6
    clear hX hwx
    have hvX := Sums.num_valid (n := X) (by omega) (by omega)
    have hvY := Sums.num_valid (n := Y) (by omega) (by omega)
    obtain ⟨b6, c6, rfl, A6⟩ := Sums.At.of hr6 hvX
    have hf6 := fun W => Sums.fldV1 0 (some ⟨b6, 0, none⟩) 1 c6 W
    have HA6 := hide A6
    have hb36 := hb35.trans (hb6.mono hb35.size)
    have HN2 := hide (Sums.nv (V := w6) (n := 1 + (rb : Int)) (by omega) (by omega))
    clear HN1 hr6 A6
    go_wp2_with fail
    refine (unhide HN2).mono ?_
    rintro e w7 ⟨s7, rfl, hr7, hb7⟩
    rw [← hY] at hr7
    clear hY hwy
    obtain ⟨b7, c7, rfl, A7⟩ := Sums.At.of hr7 hvY
    have hf7 := fun W => Sums.fldV1 0 (some ⟨b7, 0, none⟩) 1 c7 W
    have HA67 := hide ((unhide HA6).below hb7)
    have HA7 := hide A7
    have hb37 := hb36.trans (hb7.mono hb36.size)
    have HQ := hide (Sums.ib (unhide HA67) (unhide HA7) (Sums.quo_is hX0.1 hX0.2 hY0.1 hY0.2))
    clear HN2 hr7 A7 HA6
    go_wp2_with fail
    refine (unhide HQ).mono ?_
    rintro e V8 ⟨s8, rfl, hr8, hb8⟩
    obtain ⟨q0, q1⟩ := Sums.tdiv_small (y := Y) hX0.1 hX0.2
    obtain ⟨m0, m1⟩ := Sums.tmod_small (y := Y) hX0.1 hX0.2
    have hvQ := Sums.num_valid (n := X.tdiv Y) (by omega) (by omega)
    have hvM := Sums.num_valid (n := X.tmod Y) (by omega) (by omega)
    obtain ⟨b8, c8, rfl, A8⟩ := Sums.At.of hr8 hvQ
    obtain ⟨w8, hw8⟩ : ∃ w8, w8 = V8.alloc (.cells #[.int .i64 0, .slice (some ⟨b8, 0, none⟩) 1 c8] 28) := ⟨_, rfl⟩
    have B8 : Below V8.heap.size V8 w8 := by rw [hw8]; exact (Below.refl _ _).alloc (Nat.le_refl _) _
    have B78 : Below w7.heap.size w7 w8 := hb8.trans (B8.mono hb8.size)
    have HO8 := hide (show Own w8 V8.heap.size 28 [.int .i64 0, .slice (some ⟨b8, 0, none⟩) 1 c8] by rw [hw8]; exact ⟨_, heap_alloc_new _ _, rfl⟩)
    have HA8 := hide (A8.below B8)
    have HA68 := hide ((unhide HA67).below B78)
    have HA78 := hide ((unhide HA7).below B78)
    have HM := hide (Sums.ib (unhide HA68) (unhide HA78) (Sums.rem_is hX0.1 hX0.2 hY0.1 hY0.2))
    clear HQ hr8 hb8 B8 A8 HA67 HA7
    go_wp2_with fail
    rw [← hw8]
    clear hw8
    refine (unhide HM).mono ?_
    rintro e V9 ⟨s9, rfl, hr9, hb9⟩
    obtain ⟨b9, c9, rfl, A9⟩ := Sums.At.of hr9 hvM
    obtain ⟨w9, hw9⟩ : ∃ w9, w9 = V9.alloc (.cells #[.int .i64 0, .slice (some ⟨b9, 0, none⟩) 1 c9] 28) := ⟨_, rfl⟩
    have B9 : Below V9.heap.size V9 w9 := by rw [hw9]; exact (Below.refl _ _).alloc (Nat.le_refl _) _
    have B89 : Below w8.heap.size w8 w9 := hb9.trans (B9.mono hb9.size)
    have HO9 := hide (show Own w9 V9.heap.size 28 [.int .i64 0, .slice (some ⟨b9, 0, none⟩) 1 c9] by rw [hw9]; exact ⟨_, heap_alloc_new _ _, rfl⟩)
    have HO89 := hide ((unhide HO8).below B89 (unhide HO8).lt)
    have HA9 := hide (A9.below B9)
    have HA89 := hide ((unhide HA8).below B89)
    have HA69 := hide ((unhide HA68).below B89)
    have HA79 := hide ((unhide HA78).below B89)
    have B09 : Below V0.heap.size V0 w9 := B03.trans ((hb37.trans ((B78.trans (B89.mono B78.size)).mono hb37.size)).mono B03.size)
    have HO39 := hide ((unhide HO3).below (hb37.trans ((B78.trans (B89.mono B78.size)).mono hb37.size)) (unhide HO3).lt)
    have HA39 := hide ((unhide HA3).below (hb37.trans ((B78.trans (B89.mono B78.size)).mono hb37.size)))
    have K8 := hide (fun W (h : Below w9.heap.size w9 W) => (show W.cell? ⟨V8.heap.size, 1, none⟩ = some (.slice (some ⟨b8, 0, none⟩) 1 c8) from (h.cell (unhide HO89).lt).trans ((unhide HO89).cell 1)))
    have K9 := hide (fun W (h : Below w9.heap.size w9 W) => (show W.cell? ⟨V9.heap.size, 1, none⟩ = some (.slice (some ⟨b9, 0, none⟩) 1 c9) from (h.cell (unhide HO9).lt).trans ((unhide HO9).cell 1)))
    have HML := hide (fun W (h : Below w9.heap.size w9 W) => Sums.ib ((unhide HA89).below h) ((unhide HA79).below h) (Sums.mul_is q0 q1 hY0.1 hY0.2))
    obtain ⟨y0, y1⟩ := Sums.prod_small (x := X.tdiv Y) (y := Y) q0 q1 hY0.1 hY0.2
    have hvP := Sums.num_valid (n := X.tdiv Y * Y) (by omega) (by omega)
    have HAD := hide (Sums.add_is y0 y1 m0 m1)
    rw [Sums.back_is] at HAD
    clear HM hr9 hb9 B9 A9 HA68 HA78 hb4 hb5 hb6 hb7 hb35 hb36 hb37 B78 B89 B03 B04 B05 HO3 HO8 HA3 HA8 HO89
    go_upto_region 13 with fail
    try rw [← hw9]
    clear hw9
    have HSUM := HAD
    clear HAD
    refine Z.region 9 (fun W => Below w9.heap.size w9 W) (by kernel_rfl) (Below.refl _ _).drew (fun hHeld => ?_)
    refine Z.take (i := 0) (d := 57) (v := .pointer (some ⟨V8.heap.size, 1, none⟩)) rfl rfl (by kernel_rfl) (by kernel_rfl) (by kernel_rfl) (by kernel_rfl) (fun _ _ _ h => h) (Or.inl ⟨by rfl, ?_⟩) hHeld ?_
    · intro w' hSw; go_simp
    try simp only [Act.put, List.setIfInBounds_toArray, List.set_cons_zero, List.set_cons_succ]
    refine Z.take (i := 1) (d := 58) (v := .slice (some ⟨b8, 0, none⟩) 1 c8) rfl rfl (by kernel_rfl) (by kernel_rfl) (by kernel_rfl) (by kernel_rfl) (fun _ _ _ h => h) (Or.inl ⟨by rfl, ?_⟩) hHeld ?_
    · intro w' hSw; have g1 := (unhide K8) _ hSw; go_simp
    try simp only [Act.put, List.setIfInBounds_toArray, List.set_cons_zero, List.set_cons_succ]
    refine Z.take (i := 2) (d := 59) (v := .slice (some ⟨b7, 0, none⟩) 1 c7) rfl rfl (by kernel_rfl) (by kernel_rfl) (by kernel_rfl) (by kernel_rfl) (fun _ _ _ h => h) (Or.inl ⟨by rfl, ?_⟩) hHeld ?_
    · intro w' hSw; go_simp
    try simp only [Act.put, List.setIfInBounds_toArray, List.set_cons_zero, List.set_cons_succ]
    refine Z.take (i := 5) (d := 62) (v := .pointer (some ⟨V9.heap.size, 1, none⟩)) rfl rfl (by kernel_rfl) (by kernel_rfl) (by kernel_rfl) (by kernel_rfl) (fun _ _ _ h => h) (Or.inl ⟨by rfl, ?_⟩) hHeld ?_
    · intro w' hSw; go_simp
    try simp only [Act.put, List.setIfInBounds_toArray, List.set_cons_zero, List.set_cons_succ]
    refine Z.take (i := 6) (d := 63) (v := .slice (some ⟨b9, 0, none⟩) 1 c9) rfl rfl (by kernel_rfl) (by kernel_rfl) (by kernel_rfl) (by kernel_rfl) (fun _ _ _ h => h) (Or.inl ⟨by rfl, ?_⟩) hHeld ?_
    · intro w' hSw; have g1 := (unhide K9) _ hSw; go_simp
    try simp only [Act.put, List.setIfInBounds_toArray, List.set_cons_zero, List.set_cons_succ]
    refine Z.ready (rs := [3, 8]) (by kernel_rfl) (by simp) (Z.call_cons (i := 3) rfl (by rfl) (fun K hK => ?_) (Z.val_cons (i := 8) (d := 13) (v := .pointer (some ⟨w9.heap.size, 0, none⟩)) (w' := (w9.drew).alloc (.cells #[.int .i64 0, .slice none 0 0] 28)) rfl (by rfl) (fun K hK => ?_) (fun _ => hHeld.alloc (Nat.le_refl _) _) ?_ Z.All.nil))
    · go_simp
      refine ((unhide HML) _ (hHeld)).mono ?_
      rintro e W3 ⟨s3, rfl, hr3, hb3⟩
      obtain ⟨d3, e3, rfl, AP⟩ := Sums.At.of hr3 hvP
      have S3 : Below w9.heap.size w9 W3 := (hHeld).trans (hb3.mono (hHeld).size)
      have hf3 := fun W => Sums.fldV1 0 (some ⟨d3, 0, none⟩) 1 e3 W
      have HAP := hide AP
      have HADD := hide (Sums.ib AP ((unhide HA9).below S3) (unhide HSUM))
      go_simp
      refine hK.out _ _ (fun _ => S3) ?_
      clear hK K hr3 AP
      try simp only [Act.put, List.setIfInBounds_toArray, List.set_cons_zero, List.set_cons_succ]
      refine Z.take (i := 4) (d := 61) (v := .slice (some ⟨d3, 0, none⟩) 1 e3) rfl rfl (by kernel_rfl) (by kernel_rfl) (by kernel_rfl) (by kernel_rfl) (fun _ _ _ h => h) (Or.inl ⟨by rfl, ?_⟩) S3 ?_
      · intro w' hSw; first | (go_simp; done) | (go_simp; exact hf3 _) | (simp [go_sem, hf3]; done)
      try simp only [Act.put, List.setIfInBounds_toArray, List.set_cons_zero, List.set_cons_succ]
      refine Z.ready (rs := [7, 8]) (by kernel_rfl) (by simp) (Z.call_cons (i := 7) rfl (by rfl) (fun K hK => ?_) (Z.val_cons (i := 8) (d := 13) (v := .pointer (some ⟨W3.heap.size, 0, none⟩)) (w' := W3.alloc (.cells #[.int .i64 0, .slice none 0 0] 28)) rfl (by rfl) (fun K hK => ?_) (fun _ => S3.alloc S3.size _) ?_ Z.All.nil))
      · go_simp
        refine (unhide HADD).mono ?_
        rintro e W7 ⟨s7, rfl, hr7, hb7⟩
        obtain ⟨d7, e7, rfl, A7, hge7⟩ := Sums.At.of2 hr7 hvX
        have S7 : Below w9.heap.size w9 W7 := (S3).trans (hb7.mono (S3).size)
        go_simp
        refine hK.out _ _ (fun _ => S7) ?_
        clear hK K hr7
        try simp only [Act.put, List.setIfInBounds_toArray, List.set_cons_zero, List.set_cons_succ]
        refine Z.ready (rs := [8]) (by kernel_rfl) (by simp) (Z.val_cons (i := 8) (d := 13) (v := .pointer (some ⟨W7.heap.size, 0, none⟩)) (w' := W7.alloc (.cells #[.int .i64 0, .slice none 0 0] 28)) rfl (by rfl) (fun K hK => ?_) (fun _ => S7.alloc S7.size _) ?_ Z.All.nil)
        · go_simp
          exact hK.out
        try simp only [Act.put, List.setIfInBounds_toArray, List.set_cons_zero, List.set_cons_succ]
        obtain ⟨W9, hW9⟩ : ∃ W9, W9 = W7.alloc (.cells #[.int .i64 0, .slice (some ⟨d7, 0, none⟩) 1 e7] 28) := ⟨_, rfl⟩
        have B79 : Below W7.heap.size W7 W9 := by rw [hW9]; exact (Below.refl _ _).alloc (Nat.le_refl _) _
        have SE : Below w9.heap.size w9 W9 := S7.trans (B79.mono S7.size)
        have HOE := hide (show Own W9 W7.heap.size 28 [.int .i64 0, .slice (some ⟨d7, 0, none⟩) 1 e7] by rw [hW9]; exact ⟨_, heap_alloc_new _ _, rfl⟩)
        have HAE := hide (A7.below B79)
        refine Z.last_at (w' := W9) rfl (by kernel_rfl) (by rfl) (fun K hK => ?_) ?_
        · go_simp
          rw [← hW9]
          exact hK.out
        refine Z.done (by kernel_rfl) ?_ _
        clear hW9 S7 B79 hb7 A7 hge7

        have B0E : Below V0.heap.size V0 W9 := B09.trans (SE.mono B09.size)
        have HO3E := hide ((unhide HO39).below SE (unhide HO39).lt)
        have HA3E := hide ((unhide HA39).below SE)
        have HA6E := hide ((unhide HA69).below SE)
        obtain ⟨w10, hw10⟩ : ∃ w10, w10 = W9.alloc (.cells #[.int .i64 0, .int .i64 0, .string ByteArray.empty, .string ByteArray.empty, .int .i64 0] 33) := ⟨_, rfl⟩
        have BT : Below W9.heap.size W9 w10 := by rw [hw10]; exact (Below.refl _ _).alloc (Nat.le_refl _) _
        have HZ := hide (show Sums.At w10 W9.heap.size 1 [M.zero] by rw [hw10]; exact Sums.at_zero W9)
        have B010 := B0E.trans (BT.mono B0E.size)
        have HNL := hide (Sums.ib (unhide HZ) ((unhide A1) w10 B010) (Sums.null_is (unhide HF).vl))
        have hvl := (unhide HF).vl
        clear K8 K9 HML hHeld
        go_wp2_with fail
        try (rw [show (W9.alloc (.cells #[.int .i64 0, .int .i64 0, .string { data := #[] }, .string { data := #[] }, .int .i64 0] 33)) = w10 from hw10.symm])
        clear hw10
        refine (unhide HNL).mono ?_
        rintro e V11 ⟨s11, rfl, hr11, hb11⟩
        obtain ⟨b11, c11, rfl, A11⟩ := Sums.At.of hr11 hvl
        obtain ⟨w11, hw11⟩ : ∃ w11, w11 = V11.alloc (.cells #[.int .i64 0, .slice (some ⟨b11, 0, none⟩) l.length c11] 28) := ⟨_, rfl⟩
        have B11 : Below V11.heap.size V11 w11 := by rw [hw11]; exact (Below.refl _ _).alloc (Nat.le_refl _) _
        have BTT : Below W9.heap.size W9 w11 := BT.trans ((hb11.trans (B11.mono hb11.size)).mono BT.size)
        have HO11 := hide (show Own w11 V11.heap.size 28 [.int .i64 0, .slice (some ⟨b11, 0, none⟩) l.length c11] by rw [hw11]; exact ⟨_, heap_alloc_new _ _, rfl⟩)
        have HA11 := hide (A11.below B11)
        have HO3T := hide ((unhide HO3E).below BTT (unhide HO3E).lt)
        have HOET := hide ((unhide HOE).below BTT (unhide HOE).lt)
        have HA3T := hide ((unhide HA3E).below BTT)
        have HAET := hide ((unhide HAE).below BTT)
        have HA6T := hide ((unhide HA6E).below BTT)
        have B0T := B0E.trans (BTT.mono B0E.size)
        have HVF := hide (Sums.vf (unhide HA3T) hvR)
        have p1 : w11.cell? ⟨V1.heap.size, 1, none⟩ = some (.slice (some ⟨b3, 0, none⟩) R.length c3) := (unhide HO3T).cell 1
        rw [hw11] at p1
        clear HNL hr11 hb11 B11 A11 BT HO3E HA3E HA6E
        go_wp2_with fail
        rw [← hw11]
        clear hw11 p1
        refine (unhide HVF).mono ?_
        rintro e w12 ⟨rfl, hb12⟩
        have e0 : w12.cell? ⟨W7.heap.size, 0, none⟩ = some (.int .i64 0) := ((unhide HOET).below hb12 (unhide HOET).lt).cell 0
        have e1 : w12.cell? ⟨W7.heap.size, 1, none⟩ = some (.slice (some ⟨d7, 0, none⟩) 1 e7) := ((unhide HOET).below hb12 (unhide HOET).lt).cell 1
        have HS1 := hide (Sums.sm ((unhide HAET).below hb12) ((unhide HA6T).below hb12) hvX)
        clear HVF
        go_wp2_with fail
        refine (unhide HS1).mono ?_
        rintro e w13 ⟨rfl, hb13⟩
        have bT3 : Below w11.heap.size w11 w13 := hb12.trans (hb13.mono hb12.size)
        have f0 : w13.cell? ⟨V11.heap.size, 0, none⟩ = some (.int .i64 0) := ((unhide HO11).below bT3 (unhide HO11).lt).cell 0
        have f1 : w13.cell? ⟨V11.heap.size, 1, none⟩ = some (.slice (some ⟨b11, 0, none⟩) l.length c11) := ((unhide HO11).below bT3 (unhide HO11).lt).cell 1
        have B03 := B0T.trans (bT3.mono B0T.size)
        have HS2 := hide (Sums.sm ((unhide HA11).below bT3) ((unhide A1) w13 B03) hvl)
        clear HS1 e0 e1
        go_wp2_with fail
        refine (unhide HS2).mono ?_
        rintro e w14 ⟨rfl, hb14⟩
        have B04 := B03.trans (hb14.mono B03.size)
        have HEQ := hide (Sums.ib ((unhide A1) w14 B04) ((unhide A1) w14 B04) (Sums.eq_is hvl))
        clear HS2 f0 f1
        go_wp2_with fail
        refine (unhide HEQ).mono ?_
        rintro e w15 ⟨s15, rfl, hr15, hb15⟩
        obtain ⟨b15, c15, rfl, A15⟩ := Sums.At.of hr15 (Sums.bool_valid true)
        have hf15 := fun W => Sums.fldV1 0 (some ⟨b15, 0, none⟩) 1 c15 W
        have HTR := hide (Sums.tr A15)
        have B05 := B04.trans (hb15.mono B04.size)
        clear HEQ hr15 A15
        go_wp2_with fail
        refine (unhide HTR).mono ?_
        rintro e w16 ⟨rfl, hb16⟩
        go_wp2_with fail
        go_ret
        exact ⟨rfl, unhide FIN _ (B05.trans (hb16.mono B05.size))⟩
      · go_simp
        exact hK.out
      · try simp only [Act.put, List.setIfInBounds_toArray, List.set_cons_zero, List.set_cons_succ]
        obtain ⟨Wz, hWz⟩ : ∃ Wz, Wz = W3.alloc (.cells #[.int .i64 0, .slice none 0 0] 28) := ⟨_, rfl⟩
        have BZ : Below W3.heap.size W3 Wz := by rw [hWz]; exact (Below.refl _ _).alloc (Nat.le_refl _) _
        have SZ : Below w9.heap.size w9 Wz := S3.trans (BZ.mono S3.size)
        have OZ : Own Wz W3.heap.size 28 [.int .i64 0, .slice none 0 0] := by rw [hWz]; exact ⟨_, heap_alloc_new _ _, rfl⟩
        have hzb : w9.heap.size ≤ W3.heap.size := S3.size
        rw [← hWz]
        clear hWz HADD
        have HADZ := hide (Sums.ib ((unhide HAP).below BZ) ((unhide HA9).below SZ) (unhide HSUM))
        refine Z.ready (rs := [7]) (by kernel_rfl) (by simp) (Z.call_cons (i := 7) rfl (by rfl) (fun K hK => ?_) Z.All.nil)
        go_simp
        refine (unhide HADZ).mono ?_
        rintro e W7 ⟨s7, rfl, hr7, hb7⟩
        obtain ⟨d7, e7, rfl, A7, hge7⟩ := Sums.At.of2 hr7 hvX
        have S7 : Below w9.heap.size w9 W7 := (SZ).trans (hb7.mono (SZ).size)
        go_simp
        refine hK.out _ _ (fun _ => S7) ?_
        clear hK K hr7
        try simp only [Act.put, List.setIfInBounds_toArray, List.set_cons_zero, List.set_cons_succ]
        have HPB := hide (OZ.below hb7 OZ.lt)
        have hPB : w9.heap.size ≤ W3.heap.size := hzb
        have hne7 : d7 ≠ W3.heap.size := by have := OZ.lt; omega
        have S8 : Below w9.heap.size w9 W7 := S7
        have HA7E := hide A7
        clear hb7 A7 hge7 S7 OZ

        have z0 := (unhide HPB).frozen 0
        have z1 := (unhide HPB).frozen 1
        have y0' := (unhide HPB).cell 0
        have y1' := (unhide HPB).cell 1
        simp only [List.getElem?_cons_zero, List.getElem?_cons_succ] at y0' y1'
        refine Z.last_at (w' := (W7.setCell ⟨W3.heap.size, 0, none⟩ (.int .i64 0)).setCell ⟨W3.heap.size, 1, none⟩ (.slice (some ⟨d7, 0, none⟩) 1 e7)) rfl (by kernel_rfl) (by rfl) (fun K hK => ?_) ?_
        · go_simp
          exact hK.out
        refine Z.done (by kernel_rfl) ?_ _
        have HOE := hide (show Own ((W7.setCell ⟨W3.heap.size, 0, none⟩ (.int .i64 0)).setCell ⟨W3.heap.size, 1, none⟩ (.slice (some ⟨d7, 0, none⟩) 1 e7)) W3.heap.size 28 [.int .i64 0, .slice (some ⟨d7, 0, none⟩) 1 e7] by
          have := ((unhide HPB).set 0 (.int .i64 0)).set 1 (.slice (some ⟨d7, 0, none⟩) 1 e7)
          simpa using this)
        have SE : Below w9.heap.size w9 ((W7.setCell ⟨W3.heap.size, 0, none⟩ (.int .i64 0)).setCell ⟨W3.heap.size, 1, none⟩ (.slice (some ⟨d7, 0, none⟩) 1 e7)) := (S8.setCell hPB _).setCell hPB _
        have HAE := hide (show Sums.At ((W7.setCell ⟨W3.heap.size, 0, none⟩ (.int .i64 0)).setCell ⟨W3.heap.size, 1, none⟩ (.slice (some ⟨d7, 0, none⟩) 1 e7)) d7 e7 [numCl X] from Sums.at_set (Sums.at_set (unhide HA7E) hne7) hne7)
        clear z0 z1 y0' y1' HPB S8 HA7E hne7 hPB
        generalize (W7.setCell ⟨W3.heap.size, 0, none⟩ (.int .i64 0)).setCell ⟨W3.heap.size, 1, none⟩ (.slice (some ⟨d7, 0, none⟩) 1 e7) = W9 at *

        have B0E : Below V0.heap.size V0 W9 := B09.trans (SE.mono B09.size)
        have HO3E := hide ((unhide HO39).below SE (unhide HO39).lt)
        have HA3E := hide ((unhide HA39).below SE)
        have HA6E := hide ((unhide HA69).below SE)
        obtain ⟨w10, hw10⟩ : ∃ w10, w10 = W9.alloc (.cells #[.int .i64 0, .int .i64 0, .string ByteArray.empty, .string ByteArray.empty, .int .i64 0] 33) := ⟨_, rfl⟩
        have BT : Below W9.heap.size W9 w10 := by rw [hw10]; exact (Below.refl _ _).alloc (Nat.le_refl _) _
        have HZ := hide (show Sums.At w10 W9.heap.size 1 [M.zero] by rw [hw10]; exact Sums.at_zero W9)
        have B010 := B0E.trans (BT.mono B0E.size)
        have HNL := hide (Sums.ib (unhide HZ) ((unhide A1) w10 B010) (Sums.null_is (unhide HF).vl))
        have hvl := (unhide HF).vl
        clear K8 K9 HML hHeld
        go_wp2_with fail
        try (rw [show (W9.alloc (.cells #[.int .i64 0, .int .i64 0, .string { data := #[] }, .string { data := #[] }, .int .i64 0] 33)) = w10 from hw10.symm])
        clear hw10
        refine (unhide HNL).mono ?_
        rintro e V11 ⟨s11, rfl, hr11, hb11⟩
        obtain ⟨b11, c11, rfl, A11⟩ := Sums.At.of hr11 hvl
        obtain ⟨w11, hw11⟩ : ∃ w11, w11 = V11.alloc (.cells #[.int .i64 0, .slice (some ⟨b11, 0, none⟩) l.length c11] 28) := ⟨_, rfl⟩
        have B11 : Below V11.heap.size V11 w11 := by rw [hw11]; exact (Below.refl _ _).alloc (Nat.le_refl _) _
        have BTT : Below W9.heap.size W9 w11 := BT.trans ((hb11.trans (B11.mono hb11.size)).mono BT.size)
        have HO11 := hide (show Own w11 V11.heap.size 28 [.int .i64 0, .slice (some ⟨b11, 0, none⟩) l.length c11] by rw [hw11]; exact ⟨_, heap_alloc_new _ _, rfl⟩)
        have HA11 := hide (A11.below B11)
        have HO3T := hide ((unhide HO3E).below BTT (unhide HO3E).lt)
        have HOET := hide ((unhide HOE).below BTT (unhide HOE).lt)
        have HA3T := hide ((unhide HA3E).below BTT)
        have HAET := hide ((unhide HAE).below BTT)
        have HA6T := hide ((unhide HA6E).below BTT)
        have B0T := B0E.trans (BTT.mono B0E.size)
        have HVF := hide (Sums.vf (unhide HA3T) hvR)
        have p1 : w11.cell? ⟨V1.heap.size, 1, none⟩ = some (.slice (some ⟨b3, 0, none⟩) R.length c3) := (unhide HO3T).cell 1
        rw [hw11] at p1
        clear HNL hr11 hb11 B11 A11 BT HO3E HA3E HA6E
        go_wp2_with fail
        rw [← hw11]
        clear hw11 p1
        refine (unhide HVF).mono ?_
        rintro e w12 ⟨rfl, hb12⟩
        have e0 : w12.cell? ⟨W3.heap.size, 0, none⟩ = some (.int .i64 0) := ((unhide HOET).below hb12 (unhide HOET).lt).cell 0
        have e1 : w12.cell? ⟨W3.heap.size, 1, none⟩ = some (.slice (some ⟨d7, 0, none⟩) 1 e7) := ((unhide HOET).below hb12 (unhide HOET).lt).cell 1
        have HS1 := hide (Sums.sm ((unhide HAET).below hb12) ((unhide HA6T).below hb12) hvX)
        clear HVF
        go_wp2_with fail
        refine (unhide HS1).mono ?_
        rintro e w13 ⟨rfl, hb13⟩
        have bT3 : Below w11.heap.size w11 w13 := hb12.trans (hb13.mono hb12.size)
        have f0 : w13.cell? ⟨V11.heap.size, 0, none⟩ = some (.int .i64 0) := ((unhide HO11).below bT3 (unhide HO11).lt).cell 0
        have f1 : w13.cell? ⟨V11.heap.size, 1, none⟩ = some (.slice (some ⟨b11, 0, none⟩) l.length c11) := ((unhide HO11).below bT3 (unhide HO11).lt).cell 1
        have B03 := B0T.trans (bT3.mono B0T.size)
        have HS2 := hide (Sums.sm ((unhide HA11).below bT3) ((unhide A1) w13 B03) hvl)
        clear HS1 e0 e1
        go_wp2_with fail
        refine (unhide HS2).mono ?_
        rintro e w14 ⟨rfl, hb14⟩
        have B04 := B03.trans (hb14.mono B03.size)
        have HEQ := hide (Sums.ib ((unhide A1) w14 B04) ((unhide A1) w14 B04) (Sums.eq_is hvl))
        clear HS2 f0 f1
        go_wp2_with fail
        refine (unhide HEQ).mono ?_
        rintro e w15 ⟨s15, rfl, hr15, hb15⟩
        obtain ⟨b15, c15, rfl, A15⟩ := Sums.At.of hr15 (Sums.bool_valid true)
        have hf15 := fun W => Sums.fldV1 0 (some ⟨b15, 0, none⟩) 1 c15 W
        have HTR := hide (Sums.tr A15)
        have B05 := B04.trans (hb15.mono B04.size)
        clear HEQ hr15 A15
        go_wp2_with fail
        refine (unhide HTR).mono ?_
        rintro e w16 ⟨rfl, hb16⟩
        go_wp2_with fail
        go_ret
        exact ⟨rfl, unhide FIN _ (B05.trans (hb16.mono B05.size))⟩
    · go_simp
      exact hK.out
    · try simp only [Act.put, List.setIfInBounds_toArray, List.set_cons_zero, List.set_cons_succ]
      obtain ⟨Wz, hWz⟩ : ∃ Wz, Wz = (w9.drew).alloc (.cells #[.int .i64 0, .slice none 0 0] 28) := ⟨_, rfl⟩
      have BZ : Below w9.heap.size w9 Wz := by rw [hWz]; exact hHeld.alloc (Nat.le_refl _) _
      have OZ0 : Own Wz w9.heap.size 28 [.int .i64 0, .slice none 0 0] := by rw [hWz]; exact ⟨_, heap_alloc_new _ _, rfl⟩
      have hzb : w9.heap.size ≤ w9.heap.size := Nat.le_refl _
      rw [← hWz]
      clear hWz
      refine Z.ready (rs := [3]) (by kernel_rfl) (by simp) (Z.call_cons (i := 3) rfl (by rfl) (fun K hK => ?_) Z.All.nil)
      go_simp
      refine ((unhide HML) _ (BZ)).mono ?_
      rintro e W3 ⟨s3, rfl, hr3, hb3⟩
      obtain ⟨d3, e3, rfl, AP⟩ := Sums.At.of hr3 hvP
      have S3 : Below w9.heap.size w9 W3 := (BZ).trans (hb3.mono (BZ).size)
      have hf3 := fun W => Sums.fldV1 0 (some ⟨d3, 0, none⟩) 1 e3 W
      have HAP := hide AP
      have HADD := hide (Sums.ib AP ((unhide HA9).below S3) (unhide HSUM))
      go_simp
      refine hK.out _ _ (fun _ => S3) ?_
      clear hK K hr3 AP
      try simp only [Act.put, List.setIfInBounds_toArray, List.set_cons_zero, List.set_cons_succ]
      refine Z.take (i := 4) (d := 61) (v := .slice (some ⟨d3, 0, none⟩) 1 e3) rfl rfl (by kernel_rfl) (by kernel_rfl) (by kernel_rfl) (by kernel_rfl) (fun _ _ _ h => h) (Or.inl ⟨by rfl, ?_⟩) S3 ?_
      · intro w' hSw; first | (go_simp; done) | (go_simp; exact hf3 _) | (simp [go_sem, hf3]; done)
      try simp only [Act.put, List.setIfInBounds_toArray, List.set_cons_zero, List.set_cons_succ]
      have OZ := OZ0.below hb3 OZ0.lt
      refine Z.ready (rs := [7]) (by kernel_rfl) (by simp) (Z.call_cons (i := 7) rfl (by rfl) (fun K hK => ?_) Z.All.nil)
      go_simp
      refine (unhide HADD).mono ?_
      rintro e W7 ⟨s7, rfl, hr7, hb7⟩
      obtain ⟨d7, e7, rfl, A7, hge7⟩ := Sums.At.of2 hr7 hvX
      have S7 : Below w9.heap.size w9 W7 := (S3).trans (hb7.mono (S3).size)
      go_simp
      refine hK.out _ _ (fun _ => S7) ?_
      clear hK K hr7
      try simp only [Act.put, List.setIfInBounds_toArray, List.set_cons_zero, List.set_cons_succ]
      have HPB := hide (OZ.below hb7 OZ.lt)
      have hPB : w9.heap.size ≤ w9.heap.size := hzb
      have hne7 : d7 ≠ w9.heap.size := by have := OZ.lt; omega
      have S8 : Below w9.heap.size w9 W7 := S7
      have HA7E := hide A7
      clear hb7 A7 hge7 S7 OZ

      have z0 := (unhide HPB).frozen 0
      have z1 := (unhide HPB).frozen 1
      have y0' := (unhide HPB).cell 0
      have y1' := (unhide HPB).cell 1
      simp only [List.getElem?_cons_zero, List.getElem?_cons_succ] at y0' y1'
      refine Z.last_at (w' := (W7.setCell ⟨w9.heap.size, 0, none⟩ (.int .i64 0)).setCell ⟨w9.heap.size, 1, none⟩ (.slice (some ⟨d7, 0, none⟩) 1 e7)) rfl (by kernel_rfl) (by rfl) (fun K hK => ?_) ?_
      · go_simp
        exact hK.out
      refine Z.done (by kernel_rfl) ?_ _
      have HOE := hide (show Own ((W7.setCell ⟨w9.heap.size, 0, none⟩ (.int .i64 0)).setCell ⟨w9.heap.size, 1, none⟩ (.slice (some ⟨d7, 0, none⟩) 1 e7)) w9.heap.size 28 [.int .i64 0, .slice (some ⟨d7, 0, none⟩) 1 e7] by
        have := ((unhide HPB).set 0 (.int .i64 0)).set 1 (.slice (some ⟨d7, 0, none⟩) 1 e7)
        simpa using this)
      have SE : Below w9.heap.size w9 ((W7.setCell ⟨w9.heap.size, 0, none⟩ (.int .i64 0)).setCell ⟨w9.heap.size, 1, none⟩ (.slice (some ⟨d7, 0, none⟩) 1 e7)) := (S8.setCell hPB _).setCell hPB _
      have HAE := hide (show Sums.At ((W7.setCell ⟨w9.heap.size, 0, none⟩ (.int .i64 0)).setCell ⟨w9.heap.size, 1, none⟩ (.slice (some ⟨d7, 0, none⟩) 1 e7)) d7 e7 [numCl X] from Sums.at_set (Sums.at_set (unhide HA7E) hne7) hne7)
      clear z0 z1 y0' y1' HPB S8 HA7E hne7 hPB
      generalize (W7.setCell ⟨w9.heap.size, 0, none⟩ (.int .i64 0)).setCell ⟨w9.heap.size, 1, none⟩ (.slice (some ⟨d7, 0, none⟩) 1 e7) = W9 at *

      have B0E : Below V0.heap.size V0 W9 := B09.trans (SE.mono B09.size)
      have HO3E := hide ((unhide HO39).below SE (unhide HO39).lt)
      have HA3E := hide ((unhide HA39).below SE)
      have HA6E := hide ((unhide HA69).below SE)
      obtain ⟨w10, hw10⟩ : ∃ w10, w10 = W9.alloc (.cells #[.int .i64 0, .int .i64 0, .string ByteArray.empty, .string ByteArray.empty, .int .i64 0] 33) := ⟨_, rfl⟩
      have BT : Below W9.heap.size W9 w10 := by rw [hw10]; exact (Below.refl _ _).alloc (Nat.le_refl _) _
      have HZ := hide (show Sums.At w10 W9.heap.size 1 [M.zero] by rw [hw10]; exact Sums.at_zero W9)
      have B010 := B0E.trans (BT.mono B0E.size)
      have HNL := hide (Sums.ib (unhide HZ) ((unhide A1) w10 B010) (Sums.null_is (unhide HF).vl))
      have hvl := (unhide HF).vl
      clear K8 K9 HML hHeld
      go_wp2_with fail
      try (rw [show (W9.alloc (.cells #[.int .i64 0, .int .i64 0, .string { data := #[] }, .string { data := #[] }, .int .i64 0] 33)) = w10 from hw10.symm])
      clear hw10
      refine (unhide HNL).mono ?_
      rintro e V11 ⟨s11, rfl, hr11, hb11⟩
      obtain ⟨b11, c11, rfl, A11⟩ := Sums.At.of hr11 hvl
      obtain ⟨w11, hw11⟩ : ∃ w11, w11 = V11.alloc (.cells #[.int .i64 0, .slice (some ⟨b11, 0, none⟩) l.length c11] 28) := ⟨_, rfl⟩
      have B11 : Below V11.heap.size V11 w11 := by rw [hw11]; exact (Below.refl _ _).alloc (Nat.le_refl _) _
      have BTT : Below W9.heap.size W9 w11 := BT.trans ((hb11.trans (B11.mono hb11.size)).mono BT.size)
      have HO11 := hide (show Own w11 V11.heap.size 28 [.int .i64 0, .slice (some ⟨b11, 0, none⟩) l.length c11] by rw [hw11]; exact ⟨_, heap_alloc_new _ _, rfl⟩)
      have HA11 := hide (A11.below B11)
      have HO3T := hide ((unhide HO3E).below BTT (unhide HO3E).lt)
      have HOET := hide ((unhide HOE).below BTT (unhide HOE).lt)
      have HA3T := hide ((unhide HA3E).below BTT)
      have HAET := hide ((unhide HAE).below BTT)
      have HA6T := hide ((unhide HA6E).below BTT)
      have B0T := B0E.trans (BTT.mono B0E.size)
      have HVF := hide (Sums.vf (unhide HA3T) hvR)
      have p1 : w11.cell? ⟨V1.heap.size, 1, none⟩ = some (.slice (some ⟨b3, 0, none⟩) R.length c3) := (unhide HO3T).cell 1
      rw [hw11] at p1
      clear HNL hr11 hb11 B11 A11 BT HO3E HA3E HA6E
      go_wp2_with fail
      rw [← hw11]
      clear hw11 p1
      refine (unhide HVF).mono ?_
      rintro e w12 ⟨rfl, hb12⟩
      have e0 : w12.cell? ⟨w9.heap.size, 0, none⟩ = some (.int .i64 0) := ((unhide HOET).below hb12 (unhide HOET).lt).cell 0
      have e1 : w12.cell? ⟨w9.heap.size, 1, none⟩ = some (.slice (some ⟨d7, 0, none⟩) 1 e7) := ((unhide HOET).below hb12 (unhide HOET).lt).cell 1
      have HS1 := hide (Sums.sm ((unhide HAET).below hb12) ((unhide HA6T).below hb12) hvX)
      clear HVF
      go_wp2_with fail
      refine (unhide HS1).mono ?_
      rintro e w13 ⟨rfl, hb13⟩
      have bT3 : Below w11.heap.size w11 w13 := hb12.trans (hb13.mono hb12.size)
      have f0 : w13.cell? ⟨V11.heap.size, 0, none⟩ = some (.int .i64 0) := ((unhide HO11).below bT3 (unhide HO11).lt).cell 0
      have f1 : w13.cell? ⟨V11.heap.size, 1, none⟩ = some (.slice (some ⟨b11, 0, none⟩) l.length c11) := ((unhide HO11).below bT3 (unhide HO11).lt).cell 1
      have B03 := B0T.trans (bT3.mono B0T.size)
      have HS2 := hide (Sums.sm ((unhide HA11).below bT3) ((unhide A1) w13 B03) hvl)
      clear HS1 e0 e1
      go_wp2_with fail
      refine (unhide HS2).mono ?_
      rintro e w14 ⟨rfl, hb14⟩
      have B04 := B03.trans (hb14.mono B03.size)
      have HEQ := hide (Sums.ib ((unhide A1) w14 B04) ((unhide A1) w14 B04) (Sums.eq_is hvl))
      clear HS2 f0 f1
      go_wp2_with fail
      refine (unhide HEQ).mono ?_
      rintro e w15 ⟨s15, rfl, hr15, hb15⟩
      obtain ⟨b15, c15, rfl, A15⟩ := Sums.At.of hr15 (Sums.bool_valid true)
      have hf15 := fun W => Sums.fldV1 0 (some ⟨b15, 0, none⟩) 1 c15 W
      have HTR := hide (Sums.tr A15)
      have B05 := B04.trans (hb15.mono B04.size)
      clear HEQ hr15 A15
      go_wp2_with fail
      refine (unhide HTR).mono ?_
      rintro e w16 ⟨rfl, hb16⟩
      go_wp2_with fail
      go_ret
      exact ⟨rfl, unhide FIN _ (B05.trans (hb16.mono B05.size))⟩
  · obtain ⟨⟨q, r⟩, hq⟩ : ∃ q, binOut op l x = q := ⟨_, rfl⟩
    rw [hq] at hx
    have HI := hide (Sums.ib ((unhide A1) V0 (Below.refl _ _)) ((unhide A2) V0 (Below.refl _ _)) hq)
    simp only at hx
    have g0 : (q != 0) = true := by simpa using hx
    have HSS := hide (fun V (hV : Below V0.heap.size V0 V) => Sums.sb ((unhide A1) V hV) ((unhide A2) V hV) hq)
    go_wp2_with fail
    refine (unhide HI).mono ?_
    rintro e V1 ⟨s3, rfl, hr2, hb2⟩
    obtain ⟨a2, n2, c3, rfl⟩ := hr2.shape
    obtain ⟨w3, hw3⟩ : ∃ w3, w3 = V1.alloc (.cells #[.int .i64 q, .slice a2 n2 c3] 28) := ⟨_, rfl⟩
    have O3 : Own w3 V1.heap.size 28 [.int .i64 q, .slice a2 n2 c3] := by rw [hw3]; exact ⟨_, heap_alloc_new _ _, rfl⟩
    have B3 : Below V0.heap.size V0 w3 := by rw [hw3]; exact hb2.alloc hb2.size _
    have c0 := O3.cell 0
    simp only [List.getElem?_cons_zero] at c0
    clear hr2 hb2 hx HI
    go_wp2_with fail
    rw [← hw3]
    clear hw3
    go_region_with (go_at_call 7; refine ((unhide HSS) _ B3.drew).mono ?_; rintro e w4 ⟨s4, rfl, hr4, hb4⟩; obtain ⟨a4, n4, c4, rfl⟩ := hr4.shape; have hf0 := fun W => Sums.fldV q a4 n4 c4 W; have cc := ((show Own w3.drew V1.heap.size 28 [.int .i64 q, .slice a2 n2 c3] from O3).below hb4 O3.lt).cell 0; simp only [List.getElem?_cons_zero] at cc)
    all_goals
      go_wp2_with fail
      go_ret
      exact ⟨ret_bool (by simp), unhide FIN _ (B3.drew.trans (hb4.mono B3.size))⟩

namespace lawSums
theorem own : ownKnob Tryz.prog.godebug = none := by kernel_rfl
theorem laidOut : laidOutB Tryz.prog = true := by kernel_rfl

set_option maxRecDepth 100000 in
theorem lifted (os : Os) (started : os.Started) (H : Type) (enc : TypeId × Value → H) :
    ReturnsInHanded {} Tryz.checked os 3 .any (Rows.fnSumsSpec.pre6 enc Tryz.prog Tryz.f3 Rows.fnSumsRow.domain false) (Rows.fnSumsSpec.post enc Tryz.prog Tryz.f3 false true false false) := by
  refine returnsInHanded_of_change (C := Tryz.checked) own started (by kernel_rfl) Tryz.func3
    (ChangeSpec.witness6 (enc := enc) (C := Tryz.checked) false ⟨#[], #[.slice none 0 0], []⟩ 8 (by kernel_rfl) (by kernel_rfl) (by kernel_rfl) (by kernel_rfl)) ?_
  intro W base args ds gs before hval0 hW hcnd _
  have hval : ∀ (j : Nat) t v, Tryz.f3.params[j]? = some t → args[j]? = some v → Value.okWide Tryz.prog W .any base t v := hval0
  have hW' := hW
  obtain ⟨p, q, hA0, hV, rfl, hfz, hnd⟩ := hW
  have hA : DataW.TrodAll enc Tryz.prog W 0 (fun _ => true) true Tryz.f3.params.toList args.toList ds p := hA0
  rw [Tryz.params3] at hA hval
  obtain ⟨v0, vs0, d0, ds0, p0, q0, hargs, rfl, rfl, h0, r0⟩ := trodAll_cons hA
  obtain ⟨rfl, rfl, rfl⟩ := trodAll_nil r0
  obtain rfl : args = #[v0] := by cases args; simp_all
  obtain ⟨rfl, rfl⟩ := trodVars_none hV
  obtain ⟨a0, len0, cap0, rfl⟩ := okWide_slice Tryz.underlying22 (hval 0 22 v0 rfl rfl)
  have k0 := h0
  have lt0 : ∀ x ∈ p0, x.block < W.heap.size := by obtain ⟨m, hm⟩ := k0; exact DataW.trod_lt m _ _ _ hm
  have w0 : BytR W a0 len0 cap0 := by
    obtain ⟨fuel, hf⟩ := h0
    exact open_bytR hf
  clear hA0 hval0
  refine (lawSums_walk a0 len0 cap0 W w0).mono fun e W' ⟨he, bel⟩ => ?_
  subst he
  exact ⟨_, rfl, _, _, _, [], _, [], hW', trodAll_mk1 (shut_bool Tryz.underlying4 _), (trodAll_cons_mk (Below.trod laidOut (by kernel_rfl) (of_decide_eq_true (by kernel_rfl)) k0 bel lt0) trodAll_mk0), rfl, bel.frame _, fun h => by cases h⟩

theorem over : Rows.fnSumsRow.holds Tryz.pinned (OpenSpec.ofChange Rows.fnSumsSpec) :=
  OpenClaim.holds_of_wide 3 Tryz.f3 rfl rfl rfl rfl rfl rfl rfl ⟨rfl, rfl, rfl, rfl, rfl⟩ rfl rfl rfl rfl rfl (by kernel_rfl) Tryz.func3 (by kernel_rfl)
    (of_decide_eq_true (by kernel_rfl)) (by unfold Func.isWrapper; first | (rw [if_pos (by decide +kernel)]; kernel_rfl) | (rw [if_neg (by decide +kernel)]; exact ⟨rfl, rfl⟩))
    (fun os started H enc _ => lifted os started H enc)
end lawSums

/-- The statement. -/
theorem lawSums_holds : Rows.FnSumsSaid := lawSums.over
#print axioms lawSums_holds

end Go.Proofs.YtemehbjlfiebdaaGreat
