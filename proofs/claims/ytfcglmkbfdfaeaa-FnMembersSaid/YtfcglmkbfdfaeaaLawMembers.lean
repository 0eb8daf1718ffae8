/-
  Proved: whatever bytes it is given, laws.FnMembers returns true: a member that is set is got, one that is dropped is not, others stay. No condition.
-/
import Derived.Test.YtfcglmkbfdfaeaaS27
import Derived.Test.YtfcglmkbfdfaeaaS45
import Derived.Test.YtfcglmkbfdfaeaaS46
import Derived.Test.YtfcglmkbfdfaeaaS49
import Derived.Test.YtfcglmkbfdfaeaaS50
import Derived.Test.YtfcglmkbfdfaeaaS51
import Derived.Test.YtfcglmkbfdfaeaaS52
import Derived.ChangeOld
import Derived.Deep.RegionHeld3
import Derived.OpenShut
import Derived.ProofKit
import Derived.ShutString
namespace Go.Proofs.Ytfcglmkbfdfaeaa
open Go.ChangeShapes Go.WideShapes Go.ChangeAt Go.RowKit
set_option linter.unusedVariables false
set_option linter.unusedSimpArgs false

namespace Mb
theorem okOf {c : M.Cl} (h : M.cellCode c = 0) : c.ok := by
  unfold M.cellCode at h
  split at h
  · cases h
  split at h
  · cases h
  split at h
  · cases h
  split at h
  · rename_i h1 h2 h3 h4
    have t1 : c.text.size ≤ 60 := by have := h4.1; unfold M.textOk at this; rw [Bool.and_eq_true, decide_eq_true_eq] at this; exact this.1
    have t2 : c.key.size ≤ 60 := by have := h4.2; unfold M.textOk at this; rw [Bool.and_eq_true, decide_eq_true_eq] at this; exact this.1
    unfold M.Cl.ok
    omega
  · cases h
theorem oks {v : List M.Cl} (h : M.valueFault v = 0) : ∀ c ∈ v, c.ok := fun c hc => okOf (M.first_zero (M.fault_zero h).2.2.1 c hc)
/-- What stands of a member that was set. -/
structure Mf (l x : List M.Cl) (k kz : ByteArray) (R D O : List M.Cl) (qo : Int) : Prop where
  set : setOut l k x = (0, R)
  vl : M.valueFault l = 0
  vx : M.valueFault x = 0
  vR : M.valueFault R = 0
  vD : M.valueFault D = 0
  g : getKeyOut R k = (0, x)
  d : dropOut R k = (0, D)
  e : getKeyOut D k = (0, [M.zero])
  o : getKeyOut l kz = (qo, O)
  p : getKeyOut R kz = (qo, O)
  og : qo = 0 → M.valueFault O = 0
theorem getV_valid {v : List M.Cl} {k : ByteArray} (hv : M.valueFault v = 0) : M.valueFault (getV v k) = 0 := by
  unfold getV
  split
  · rename_i j hj
    have hm := List.mem_of_find?_eq_some hj
    have hl := (M.fault_zero hv).1
    obtain ⟨hin, _⟩ := M.places_in hv 0 (by omega)
    simp only [Nat.zero_add] at hin
    have h5 := hin j (List.mem_range.1 hm)
    exact part_valid hv (by omega)
  · exact St.null_valid
theorem mf_of {l x : List M.Cl} {k : ByteArray} (h : (setOut l k x).1 = 0) : ∃ R D O qo, Mf l x k (k ++ ⟨#[122]⟩) R D O qo := by
  have hb : bothOut l x = 0 := by
    by_cases hb : bothOut l x = 0
    · exact hb
    · rw [set_bad hb] at h; exact h
  obtain ⟨hl, hx⟩ := both_zero hb
  have ht : M.textOk k = true := by
    cases hq : M.textOk k with
    | true => rfl
    | false => rw [set_text hb hq] at h; cases h
  rw [set_ok hb ht] at h
  have hk : (l.getD 0 M.zero).kind = 0 ∨ (l.getD 0 M.zero).kind = 6 := by
    by_cases h0 : (l.getD 0 M.zero).kind = 0
    · exact .inl h0
    by_cases h6 : (l.getD 0 M.zero).kind = 6
    · exact .inr h6
    rw [set_kind h0 h6] at h; cases h
  rw [set_some hk] at h
  have hs := set_some (key := k) (u := x) hk
  have hvR : M.valueFault (objV (keysAt l 0 ++ [k]) (subs l 0 ++ [x])) = 0 := by
    by_cases hv : M.valueFault (objV (keysAt l 0 ++ [k]) (subs l 0 ++ [x])) = 0
    · exact hv
    · rw [told_bad hv] at h; exact h
  rw [told_ok hvR] at hs
  obtain ⟨s1, s2, s3⟩ := set_get (key := k) hl hx hk
  generalize objV (keysAt l 0 ++ [k]) (subs l 0 ++ [x]) = R at *
  have hne : (k ++ ⟨#[122]⟩ : ByteArray).toList ≠ k.toList := fun e => by
    have := congrArg ByteArray.size (bytes_ext e)
    rw [ByteArray.size_append] at this
    have e1 : (⟨#[122]⟩ : ByteArray).size = 1 := rfl
    omega
  obtain ⟨d1, d2⟩ := drop_get (key := k) hvR
  have hvD := drop_valid k hvR (oks hvR) s3
  have hd : dropOut R k = (0, dropIn R k) := by rw [drop_ok hvR ht, drop_6 s3]
  by_cases htz : M.textOk (k ++ ⟨#[122]⟩) = true
  · exact ⟨R, dropIn R k, getV l (k ++ ⟨#[122]⟩), 0, by rw [set_ok hb ht, hs], hl, hx, hvR, hvD, by rw [gk_ok hvR ht, get_some (.inr s3), s1], hd, by rw [gk_ok hvD ht, get_some (.inr d2), d1], by rw [gk_ok hl htz, get_some hk], by rw [gk_ok hvR htz, get_some (.inr s3), s2 _ hne], fun _ => getV_valid hl⟩
  · have htz : M.textOk (k ++ ⟨#[122]⟩) = false := by simpa using htz
    exact ⟨R, dropIn R k, [], 5, by rw [set_ok hb ht, hs], hl, hx, hvR, hvD, by rw [gk_ok hvR ht, get_some (.inr s3), s1], hd, by rw [gk_ok hvD ht, get_some (.inr d2), d1], gk_text hl htz, gk_text hvR htz, fun e => absurd e (by decide)⟩
theorem fldV (x : Int) (a : Option Addr) (n c : Nat) (w : World) : (Instr.field 28 (.agg #[.int .i64 x, .slice a n c]) 0).run Try.prog w = .ok (.int .i64 x) w := by kernel_rfl
theorem rowed {w : World} {B : Nat} {s : Value} {l : List M.Cl} (h : Res w B s l) (hne : l ≠ []) : ∃ b cap, s = .slice (some ⟨b, 0, none⟩) l.length cap ∧ l.length ≤ cap ∧ b < w.heap.size ∧ Row w b 0 l := by
  obtain ⟨hn, ⟨h1, h2⟩ | ⟨b, cap, h1, h2, h3, h4⟩⟩ := h
  · exact absurd h2 hne
  · exact ⟨b, cap, h1, h3, h4.lt, h4.row⟩
theorem ne_of {l : List M.Cl} (h : M.valueFault l = 0) : l ≠ [] := by intro e; have := (M.fault_zero h).1; rw [e] at this; simp at this
section
variable {W V : World} {b c : Nat} {l : List M.Cl} {k : ByteArray} {q : Int} {r : List M.Cl}
theorem gk (hrow : Row W b 0 l) (hb : b < W.heap.size) (hn : l.length ≤ 1048576) (hc : l.length ≤ c) (hok : ∀ c ∈ l, c.ok) (hk : k.size ≤ 300) (hV : Below W.heap.size W V) (hq : getKeyOut l k = (q, r)) : Calls Try.prog 8 #[.slice (some ⟨b, 0, none⟩) l.length c, .string k] V fun e V' => ∃ s', e = .returned (.agg #[.int .i64 q, s']) ∧ Res V' V.heap.size s' r ∧ Below V.heap.size V V' := by
  refine (implGetKey_any l b 0 c k V (hrow.below hV hb) (Nat.lt_of_lt_of_le hb hV.size) hn hc hok (by omega)).mono fun e V' h => ?_
  rw [hq] at h
  exact h
theorem sk {g2 c2 : Nat} {x : List M.Cl} (hrow : Row W b 0 l) (hb : b < W.heap.size) (hn : l.length ≤ 1048576) (hc : l.length ≤ c) (hok : ∀ c ∈ l, c.ok) (hrow2 : Row W g2 0 x) (hb2 : g2 < W.heap.size) (hn2 : x.length ≤ 1048576) (hc2 : x.length ≤ c2) (hok2 : ∀ c ∈ x, c.ok) (hk : k.size ≤ 300) (hV : Below W.heap.size W V) (hq : setOut l k x = (q, r)) : Calls Try.prog 6 #[.slice (some ⟨b, 0, none⟩) l.length c, .string k, .slice (some ⟨g2, 0, none⟩) x.length c2] V fun e V' => ∃ s', e = .returned (.agg #[.int .i64 q, s']) ∧ Res V' V.heap.size s' r ∧ Below V.heap.size V V' := by
  refine (implSetKey_any l b 0 c k x g2 0 c2 V (hrow.below hV hb) (Nat.lt_of_lt_of_le hb hV.size) hn hc hok (hrow2.below hV hb2) (Nat.lt_of_lt_of_le hb2 hV.size) hn2 hc2 hok2 (by omega)).mono fun e V' h => ?_
  rw [hq] at h
  exact h
theorem ss {g2 c2 : Nat} {x : List M.Cl} (hrow : Row W b 0 l) (hb : b < W.heap.size) (hn : l.length ≤ 1048576) (hc : l.length ≤ c) (hok : ∀ c ∈ l, c.ok) (hrow2 : Row W g2 0 x) (hb2 : g2 < W.heap.size) (hn2 : x.length ≤ 1048576) (hc2 : x.length ≤ c2) (hok2 : ∀ c ∈ x, c.ok) (hk : k.size ≤ 300) (hV : Below W.heap.size W V) (hq : setOut l k x = (q, r)) : Calls Try.prog 7 #[.slice (some ⟨b, 0, none⟩) l.length c, .string k, .slice (some ⟨g2, 0, none⟩) x.length c2] V fun e V' => ∃ s', e = .returned (.agg #[.int .i64 q, s']) ∧ Res V' V.heap.size s' r ∧ Below V.heap.size V V' := by
  refine (specSetKey_any l b 0 c k x g2 0 c2 V (hrow.below hV hb) (Nat.lt_of_lt_of_le hb hV.size) hn hc hok (hrow2.below hV hb2) (Nat.lt_of_lt_of_le hb2 hV.size) hn2 hc2 hok2 (by omega)).mono fun e V' h => ?_
  rw [hq] at h
  exact h
theorem dk (hrow : Row W b 0 l) (hb : b < W.heap.size) (hn : l.length ≤ 1048576) (hc : l.length ≤ c) (hok : ∀ c ∈ l, c.ok) (hk : k.size ≤ 300) (hV : Below W.heap.size W V) (hq : dropOut l k = (q, r)) : Calls Try.prog 9 #[.slice (some ⟨b, 0, none⟩) l.length c, .string k] V fun e V' => ∃ s', e = .returned (.agg #[.int .i64 q, s']) ∧ Res V' V.heap.size s' r ∧ Below V.heap.size V V' := by
  refine (implDropKey_any l b 0 c k V (hrow.below hV hb) (Nat.lt_of_lt_of_le hb hV.size) hn hc hok (by omega)).mono fun e V' h => ?_
  rw [hq] at h
  exact h
end
end Mb

set_option maxRecDepth 100000 in
set_option maxHeartbeats 8000000 in
theorem lawMembers_walk (a : Option Addr) (len cap : Nat) (w : World) (hB : BytR w a len cap) :
    Calls Try.prog 3 #[.slice a len cap] w fun e w' => e = .returned (.bool true) ∧ Below w.heap.size w w' := by
  by_cases hbig : 1048576 < len
  · go_enter Try.func3, Try.ntmps3
    go_wp2_with fail
    refine (lwBig_any a len cap _).mono ?_
    rintro e w1 ⟨rfl, hw1⟩
    rw [hw1, decide_eq_true hbig]
    clear hw1
    go_wp2_with fail
    go_ret
    exact ⟨rfl, Below.refl _ _⟩
  have HD := hide (drawSetKey_any a len cap w hB.1 (by omega))
  clear hB
  go_enter Try.func3, Try.ntmps3
  go_wp2_with fail
  refine (lwBig_any a len cap _).mono ?_
  rintro e w1 ⟨rfl, hw1⟩
  rw [hw1, decide_eq_false hbig]
  clear hw1
  go_wp2_with fail
  refine (unhide HD).mono ?_
  rintro e V0 ⟨s1, l, k, s2, x, rfl, hks, G1, G2, BW⟩
  have FIN := hide (fun (V : World) (hV : Below V0.heap.size V0 V) => BW.trans (hV.mono BW.size))
  obtain ⟨g1, c1, rfl, hg1, hc1, hrow1⟩ := G1.at
  obtain ⟨g2, c2, rfl, hg2, hc2, hrow2⟩ := G2.at
  have hok1 := G1.2.2.2
  have hok2 := G2.2.2.2
  have hl1 := G1.2.2.1
  have hl2 := G2.2.2.1
  clear HD BW G1 G2
  have HSI := hide (fun V (hV : Below V0.heap.size V0 V) q r (hq : setOut l k x = (q, r)) => Mb.sk hrow1 hg1 (by omega) hc1 hok1 hrow2 hg2 (by omega) hc2 hok2 (show k.size ≤ 300 by omega) hV hq)
  by_cases hx : (setOut l k x).1 = 0
  · obtain ⟨R, D, O, qo, F⟩ := Mb.mf_of hx
    have hRl := (M.fault_zero F.vR).2.1
    have hDl := (M.fault_zero F.vD).2.1
    have hRo := Mb.oks F.vR
    have hDo := Mb.oks F.vD
    have hRn := Mb.ne_of F.vR
    have hDn := Mb.ne_of F.vD
    have hxn := Mb.ne_of F.vx
    have hkz : (k ++ ⟨#[122]⟩ : ByteArray).size ≤ 300 := by rw [ByteArray.size_append]; have e1 : (⟨#[122]⟩ : ByteArray).size = 1 := rfl; omega
    have HF := hide F
    have HZ := hide hkz
    have HSI := hide ((unhide HSI) V0 (Below.refl _ _) 0 R F.set)
    have HOL := hide (fun V (hV : Below V0.heap.size V0 V) => Mb.gk hrow1 hg1 (by omega) hc1 hok1 hkz hV F.o)
    clear hx F hkz hRl hDl
    go_wp2_with fail
    refine (unhide HSI).mono ?_
    rintro e V1 ⟨s3, rfl, hr3, hb3⟩
    obtain ⟨b3, c3, rfl, hc3, hlt3, hrow3⟩ := Mb.rowed hr3 hRn
    obtain ⟨w3, hw3⟩ : ∃ w3, w3 = V1.alloc (.cells #[.int .i64 0, .slice (some ⟨b3, 0, none⟩) R.length c3] 28) := ⟨_, rfl⟩
    have B13 : Below V1.heap.size V1 w3 := by rw [hw3]; exact (Below.refl _ _).alloc (Nat.le_refl _) _
    have B03 : Below V0.heap.size V0 w3 := hb3.trans (B13.mono hb3.size)
    have O3 : Own w3 V1.heap.size 28 [.int .i64 0, .slice (some ⟨b3, 0, none⟩) R.length c3] := by rw [hw3]; exact ⟨_, heap_alloc_new _ _, rfl⟩
    have row3 := hrow3.below B13 hlt3
    have lt3 : b3 < w3.heap.size := Nat.lt_of_lt_of_le hlt3 B13.size
    have HGR := hide (fun V (hV : Below w3.heap.size w3 V) => Mb.gk row3 lt3 (by have := (M.fault_zero (unhide HF).vR).2.1; omega) hc3 hRo (show k.size ≤ 300 by omega) hV (unhide HF).g)
    have HDR := hide (fun V (hV : Below w3.heap.size w3 V) => Mb.dk row3 lt3 (by have := (M.fault_zero (unhide HF).vR).2.1; omega) hc3 hRo (show k.size ≤ 300 by omega) hV (unhide HF).d)
    have HPR := hide (fun V (hV : Below w3.heap.size w3 V) => Mb.gk row3 lt3 (by have := (M.fault_zero (unhide HF).vR).2.1; omega) hc3 hRo (unhide HZ) hV (unhide HF).p)
    have HVF := hide (fun V (hV : Below w3.heap.size w3 V) => implFault_any R b3 0 c3 V (row3.below hV lt3) (Nat.lt_of_lt_of_le lt3 hV.size) (by have := (M.fault_zero (unhide HF).vR).2.1; omega) hc3 hRo)
    rw [(unhide HF).vR] at HVF
    have HO3 := hide O3
    have p0 : w3.cell? ⟨V1.heap.size, 0, none⟩ = some (.int .i64 0) := O3.cell 0
    have p1 : w3.cell? ⟨V1.heap.size, 1, none⟩ = some (.slice (some ⟨b3, 0, none⟩) R.length c3) := O3.cell 1
    rw [hw3] at p0 p1
    clear hr3 hb3 hrow3 hlt3 B13 O3 row3 HSI
    go_wp2_with fail
    rw [← hw3]
    clear hw3
    refine ((unhide HGR) w3 (Below.refl _ _)).mono ?_
    rintro e V4 ⟨s4, rfl, hr4, hb4⟩
    obtain ⟨b4, c4, rfl, hc4, hlt4, hrow4⟩ := Mb.rowed hr4 hxn
    have SL4 := hide (show Row V4 b4 0 x ∧ b4 < V4.heap.size from ⟨hrow4, hlt4⟩)
    clear hrow4 hlt4
    obtain ⟨w4, hw4⟩ : ∃ w4, w4 = V4.alloc (.cells #[.int .i64 0, .slice (some ⟨b4, 0, none⟩) x.length c4] 28) := ⟨_, rfl⟩
    have B4a : Below V4.heap.size V4 w4 := by rw [hw4]; exact (Below.refl _ _).alloc (Nat.le_refl _) _
    have B34 : Below w3.heap.size w3 w4 := hb4.trans (B4a.mono hb4.size)
    have HO4 := hide (show Own w4 V4.heap.size 28 [.int .i64 0, .slice (some ⟨b4, 0, none⟩) x.length c4] by rw [hw4]; exact ⟨_, heap_alloc_new _ _, rfl⟩)
    have B3_4 : Below w3.heap.size w3 w4 := B34
    have HB4 := hide B4a
    have HO3n := hide ((unhide HO3).below (B34) (unhide HO3).lt)
    clear HO3
    have HO3 := HO3n
    clear HO3n
    clear p0 p1
    have p0 : w4.cell? ⟨V1.heap.size, 0, none⟩ = some (.int .i64 0) := (unhide HO3).cell 0
    have p1 : w4.cell? ⟨V1.heap.size, 1, none⟩ = some (.slice (some ⟨b3, 0, none⟩) R.length c3) := (unhide HO3).cell 1
    rw [hw4] at p0 p1
    clear hr4 hb4 B4a
    go_wp2_with fail
    rw [← hw4]
    clear hw4
    refine ((unhide HDR) w4 B3_4).mono ?_
    rintro e V5 ⟨s5, rfl, hr5, hb5⟩
    obtain ⟨b5, c5, rfl, hc5, hlt5, hrow5⟩ := Mb.rowed hr5 hDn
    have SL5 := hide (show Row V5 b5 0 D ∧ b5 < V5.heap.size from ⟨hrow5, hlt5⟩)
    clear hrow5 hlt5
    obtain ⟨w5, hw5⟩ : ∃ w5, w5 = V5.alloc (.cells #[.int .i64 0, .slice (some ⟨b5, 0, none⟩) D.length c5] 28) := ⟨_, rfl⟩
    have B5a : Below V5.heap.size V5 w5 := by rw [hw5]; exact (Below.refl _ _).alloc (Nat.le_refl _) _
    have B45 : Below w4.heap.size w4 w5 := hb5.trans (B5a.mono hb5.size)
    have HO5 := hide (show Own w5 V5.heap.size 28 [.int .i64 0, .slice (some ⟨b5, 0, none⟩) D.length c5] by rw [hw5]; exact ⟨_, heap_alloc_new _ _, rfl⟩)
    have B3_5 : Below w3.heap.size w3 w5 := B3_4.trans (B45.mono B3_4.size)
    have HB5 := hide B5a
    have HO3n := hide ((unhide HO3).below (B45) (unhide HO3).lt)
    clear HO3
    have HO3 := HO3n
    clear HO3n
    have HO4n := hide ((unhide HO4).below (B45) (unhide HO4).lt)
    clear HO4
    have HO4 := HO4n
    clear HO4n
    have B4_5 : Below w4.heap.size w4 w5 := B45
    clear p0 p1
    have HED := hide (fun V (hV : Below w5.heap.size w5 V) => Mb.gk ((unhide SL5).1.below (unhide HB5) (unhide SL5).2) (Nat.lt_of_lt_of_le (unhide SL5).2 (unhide HB5).size) (by have := (M.fault_zero (unhide HF).vD).2.1; omega) hc5 hDo (show k.size ≤ 300 by omega) hV (unhide HF).e)
    have p0 : w5.cell? ⟨V1.heap.size, 0, none⟩ = some (.int .i64 0) := (unhide HO3).cell 0
    have p1 : w5.cell? ⟨V1.heap.size, 1, none⟩ = some (.slice (some ⟨b3, 0, none⟩) R.length c3) := (unhide HO3).cell 1
    have q5_0 : w5.cell? ⟨V5.heap.size, 0, none⟩ = some (.int .i64 0) := (unhide HO5).cell 0
    have q5_1 : w5.cell? ⟨V5.heap.size, 1, none⟩ = some (.slice (some ⟨b5, 0, none⟩) D.length c5) := (unhide HO5).cell 1
    rw [hw5] at p0 p1 q5_0 q5_1
    clear hr5 hb5 B5a
    go_wp2_with fail
    rw [← hw5]
    clear hw5
    refine ((unhide HED) w5 (Below.refl _ _)).mono ?_
    rintro e V6 ⟨s6, rfl, hr6, hb6⟩
    obtain ⟨b6, c6, rfl, hc6, hlt6, hrow6⟩ := Mb.rowed hr6 (by simp)
    have SL6 := hide (show Row V6 b6 0 [M.zero] ∧ b6 < V6.heap.size from ⟨hrow6, hlt6⟩)
    clear hrow6 hlt6
    obtain ⟨w6, hw6⟩ : ∃ w6, w6 = V6.alloc (.cells #[.int .i64 0, .slice (some ⟨b6, 0, none⟩) 1 c6] 28) := ⟨_, rfl⟩
    have B6a : Below V6.heap.size V6 w6 := by rw [hw6]; exact (Below.refl _ _).alloc (Nat.le_refl _) _
    have B56 : Below w5.heap.size w5 w6 := hb6.trans (B6a.mono hb6.size)
    have HO6 := hide (show Own w6 V6.heap.size 28 [.int .i64 0, .slice (some ⟨b6, 0, none⟩) 1 c6] by rw [hw6]; exact ⟨_, heap_alloc_new _ _, rfl⟩)
    have B3_6 : Below w3.heap.size w3 w6 := B3_5.trans (B56.mono B3_5.size)
    have HB6 := hide B6a
    have HO3n := hide ((unhide HO3).below (B56) (unhide HO3).lt)
    clear HO3
    have HO3 := HO3n
    clear HO3n
    have HO4n := hide ((unhide HO4).below (B56) (unhide HO4).lt)
    clear HO4
    have HO4 := HO4n
    clear HO4n
    have HO5n := hide ((unhide HO5).below (B56) (unhide HO5).lt)
    clear HO5
    have HO5 := HO5n
    clear HO5n
    have B4_6 : Below w4.heap.size w4 w6 := B4_5.trans (B56.mono B4_5.size)
    clear p0 p1 q5_0 q5_1
    have p0 : w6.cell? ⟨V1.heap.size, 0, none⟩ = some (.int .i64 0) := (unhide HO3).cell 0
    have p1 : w6.cell? ⟨V1.heap.size, 1, none⟩ = some (.slice (some ⟨b3, 0, none⟩) R.length c3) := (unhide HO3).cell 1
    rw [hw6] at p0 p1
    clear hr6 hb6 B6a
    go_wp2_with fail
    rw [← hw6]
    clear hw6
    refine ((unhide HOL) w6 (B03.trans (B3_6.mono B03.size))).mono ?_
    rintro e V7 ⟨s7, rfl, hr7, hb7⟩
    obtain ⟨a7, n7, c7, rfl⟩ := hr7.shape
    have HR7 := hide hr7
    obtain ⟨w7, hw7⟩ : ∃ w7, w7 = V7.alloc (.cells #[.int .i64 qo, .slice a7 n7 c7] 28) := ⟨_, rfl⟩
    have B7a : Below V7.heap.size V7 w7 := by rw [hw7]; exact (Below.refl _ _).alloc (Nat.le_refl _) _
    have B67 : Below w6.heap.size w6 w7 := hb7.trans (B7a.mono hb7.size)
    have HO7 := hide (show Own w7 V7.heap.size 28 [.int .i64 qo, .slice a7 n7 c7] by rw [hw7]; exact ⟨_, heap_alloc_new _ _, rfl⟩)
    have B3_7 : Below w3.heap.size w3 w7 := B3_6.trans (B67.mono B3_6.size)
    have HB7 := hide B7a
    have HO3n := hide ((unhide HO3).below (B67) (unhide HO3).lt)
    clear HO3
    have HO3 := HO3n
    clear HO3n
    have HO4n := hide ((unhide HO4).below (B67) (unhide HO4).lt)
    clear HO4
    have HO4 := HO4n
    clear HO4n
    have HO5n := hide ((unhide HO5).below (B67) (unhide HO5).lt)
    clear HO5
    have HO5 := HO5n
    clear HO5n
    have HO6n := hide ((unhide HO6).below (B67) (unhide HO6).lt)
    clear HO6
    have HO6 := HO6n
    clear HO6n
    have B4_7 : Below w4.heap.size w4 w7 := B4_6.trans (B67.mono B4_6.size)
    have B6_7 : Below w6.heap.size w6 w7 := B67
    clear p0 p1
    have p0 : w7.cell? ⟨V1.heap.size, 0, none⟩ = some (.int .i64 0) := (unhide HO3).cell 0
    have p1 : w7.cell? ⟨V1.heap.size, 1, none⟩ = some (.slice (some ⟨b3, 0, none⟩) R.length c3) := (unhide HO3).cell 1
    rw [hw7] at p0 p1
    clear hr7 hb7 B7a
    go_wp2_with fail
    rw [← hw7]
    clear hw7
    refine ((unhide HPR) w7 B3_7).mono ?_
    rintro e V8 ⟨s8, rfl, hr8, hb8⟩
    obtain ⟨a8, n8, c8, rfl⟩ := hr8.shape
    have HR8 := hide hr8
    obtain ⟨w8, hw8⟩ : ∃ w8, w8 = V8.alloc (.cells #[.int .i64 qo, .slice a8 n8 c8] 28) := ⟨_, rfl⟩
    have B8a : Below V8.heap.size V8 w8 := by rw [hw8]; exact (Below.refl _ _).alloc (Nat.le_refl _) _
    have B78 : Below w7.heap.size w7 w8 := hb8.trans (B8a.mono hb8.size)
    have HO8 := hide (show Own w8 V8.heap.size 28 [.int .i64 qo, .slice a8 n8 c8] by rw [hw8]; exact ⟨_, heap_alloc_new _ _, rfl⟩)
    have B3_8 : Below w3.heap.size w3 w8 := B3_7.trans (B78.mono B3_7.size)
    have HB8 := hide B8a
    have HO3n := hide ((unhide HO3).below (B78) (unhide HO3).lt)
    clear HO3
    have HO3 := HO3n
    clear HO3n
    have HO4n := hide ((unhide HO4).below (B78) (unhide HO4).lt)
    clear HO4
    have HO4 := HO4n
    clear HO4n
    have HO5n := hide ((unhide HO5).below (B78) (unhide HO5).lt)
    clear HO5
    have HO5 := HO5n
    clear HO5n
    have HO6n := hide ((unhide HO6).below (B78) (unhide HO6).lt)
    clear HO6
    have HO6 := HO6n
    clear HO6n
    have HO7n := hide ((unhide HO7).below (B78) (unhide HO7).lt)
    clear HO7
    have HO7 := HO7n
    clear HO7n
    have B4_8 : Below w4.heap.size w4 w8 := B4_7.trans (B78.mono B4_7.size)
    have B6_8 : Below w6.heap.size w6 w8 := B6_7.trans (B78.mono B6_7.size)
    clear p0 p1
    have p0 : w8.cell? ⟨V1.heap.size, 0, none⟩ = some (.int .i64 0) := (unhide HO3).cell 0
    have p1 : w8.cell? ⟨V1.heap.size, 1, none⟩ = some (.slice (some ⟨b3, 0, none⟩) R.length c3) := (unhide HO3).cell 1
    rw [hw8] at p0 p1
    clear hr8 hb8 B8a
    go_wp2_with fail
    rw [← hw8]
    clear hw8
    refine ((unhide HVF) w8 B3_8).mono ?_
    rintro e V9 ⟨rfl, hb9⟩
    have hvx := (unhide HF).vx
    have hl4 := (unhide SL4).2
    have row4 := ((unhide SL4).1.below (unhide HB4) hl4).below (B4_8.trans (hb9.mono B4_8.size)) (Nat.lt_of_lt_of_le hl4 (unhide HB4).size)
    have lt4 : b4 < V9.heap.size := Nat.lt_of_lt_of_le (Nat.lt_of_lt_of_le hl4 (unhide HB4).size) (Nat.le_trans B4_8.size hb9.size)
    have B09 : Below V0.heap.size V0 V9 := B03.trans ((B3_8.trans (hb9.mono B3_8.size)).mono B03.size)
    have HSX := hide (implSame_any x x b4 0 c4 g2 0 c2 V9 row4 lt4 (by omega) hc4 hok2 (hrow2.below B09 hg2) (Nat.lt_of_lt_of_le hg2 B09.size) (by omega) hc2 hok2)
    rw [show sameOut x x = true from by rw [Od.same_eq hvx hvx, Od.out_self hvx]; rfl] at HSX
    have HP4 := hide ((unhide HO4).below hb9 (unhide HO4).lt)
    have HP5 := hide ((unhide HO5).below hb9 (unhide HO5).lt)
    have HP6 := hide ((unhide HO6).below hb9 (unhide HO6).lt)
    have HP7 := hide ((unhide HO7).below hb9 (unhide HO7).lt)
    have HP8 := hide ((unhide HO8).below hb9 (unhide HO8).lt)
    have q0 : V9.cell? ⟨V4.heap.size, 0, none⟩ = some (.int .i64 0) := (unhide HP4).cell 0
    have q1 : V9.cell? ⟨V4.heap.size, 1, none⟩ = some (.slice (some ⟨b4, 0, none⟩) x.length c4) := (unhide HP4).cell 1
    have hl6 := (unhide SL6).2
    have ROW6 := hide (show Row V9 b6 0 [M.zero] from ((unhide SL6).1.below (unhide HB6) hl6).below (B6_8.trans (hb9.mono B6_8.size)) (Nat.lt_of_lt_of_le hl6 (unhide HB6).size))
    have lt6 : b6 < V9.heap.size := Nat.lt_of_lt_of_le (Nat.lt_of_lt_of_le hl6 (unhide HB6).size) (Nat.le_trans B6_8.size hb9.size)
    have HR7' := hide (((unhide HR7).below (unhide HB7)).below (B78.trans (hb9.mono B78.size)))
    have HR8' := hide (((unhide HR8).below (unhide HB8)).below hb9)
    have HOG := hide ((unhide HF).og)
    clear hb9 p0 p1 row4 lt4 hl4 hl6 hvx HVF
    go_wp2_with fail
    refine (unhide HSX).mono ?_
    rintro e V10 ⟨rfl, hb10⟩
    have HQ5 := (unhide HP5).below hb10 (unhide HP5).lt
    have HQ6 := (unhide HP6).below hb10 (unhide HP6).lt
    have HQ7 := (unhide HP7).below hb10 (unhide HP7).lt
    have HQ8 := (unhide HP8).below hb10 (unhide HP8).lt
    have r5 : V10.cell? ⟨V5.heap.size, 0, none⟩ = some (.int .i64 0) := HQ5.cell 0
    have r6 : V10.cell? ⟨V6.heap.size, 0, none⟩ = some (.int .i64 0) := HQ6.cell 0
    have r6' : V10.cell? ⟨V6.heap.size, 1, none⟩ = some (.slice (some ⟨b6, 0, none⟩) 1 c6) := HQ6.cell 1
    have r7 : V10.cell? ⟨V7.heap.size, 0, none⟩ = some (.int .i64 qo) := HQ7.cell 0
    have r8 : V10.cell? ⟨V8.heap.size, 0, none⟩ = some (.int .i64 qo) := HQ8.cell 0
    have e0 : V10.cell? ⟨b6, 0, none⟩ = some (.int .i64 0) := by
      have := (((unhide ROW6).below hb10 lt6) 0 (by simp)).1
      simpa [show M.zero.kind = 0 from rfl] using this
    have BE : Below V0.heap.size V0 V10 := B09.trans (hb10.mono B09.size)
    by_cases hqo : qo = 0
    · subst hqo
      have hO := (unhide HOG) rfl
      have hOn := Mb.ne_of hO
      have hOl := (M.fault_zero hO).2.1
      obtain ⟨b7, d7, e7, hc7, hlt7, hrow7⟩ := Mb.rowed ((unhide HR7').below hb10) hOn
      obtain ⟨b8, d8, e8, hc8, hlt8, hrow8⟩ := Mb.rowed ((unhide HR8').below hb10) hOn
      cases e7
      cases e8
      have HSO := hide (implSame_any O O b7 0 c7 b8 0 c8 V10 hrow7 hlt7 (by omega) hc7 (Mb.oks hO) hrow8 hlt8 (by omega) hc8 (Mb.oks hO))
      rw [show sameOut O O = true from by rw [Od.same_eq hO hO, Od.out_self hO]; rfl] at HSO
      have r7' : V10.cell? ⟨V7.heap.size, 1, none⟩ = some (.slice (some ⟨b7, 0, none⟩) O.length c7) := HQ7.cell 1
      have r8' : V10.cell? ⟨V8.heap.size, 1, none⟩ = some (.slice (some ⟨b8, 0, none⟩) O.length c8) := HQ8.cell 1
      clear hb10 hrow7 hrow8 hlt7 hlt8 HQ5 HQ6 HQ7 HQ8
      go_wp2_with fail
      refine (unhide HSO).mono ?_
      rintro e V11 ⟨rfl, hb11⟩
      go_wp2_with fail
      go_ret
      exact ⟨rfl, unhide FIN _ (BE.trans (hb11.mono BE.size))⟩
    · have hne : (qo != 0) = true := by simp [hqo]
      have heq : (qo == qo) = true := by simp
      clear hb10 HQ5 HQ6 HQ7 HQ8
      go_wp2_with fail
      go_ret
      exact ⟨rfl, unhide FIN _ BE⟩
  · obtain ⟨⟨q, r⟩, hq⟩ : ∃ q, setOut l k x = q := ⟨_, rfl⟩
    rw [hq] at hx
    have HSI := hide ((unhide HSI) V0 (Below.refl _ _) q r hq)
    simp only at hx
    have g0 : (q != 0) = true := by simpa using hx
    have HSS := hide (fun V (hV : Below V0.heap.size V0 V) => Mb.ss hrow1 hg1 (by omega) hc1 hok1 hrow2 hg2 (by omega) hc2 hok2 (show k.size ≤ 300 by omega) hV hq)
    go_wp2_with fail
    refine (unhide HSI).mono ?_
    rintro e V1 ⟨s3, rfl, hr2, hb2⟩
    obtain ⟨a2, n2, c3, rfl⟩ := hr2.shape
    obtain ⟨w3, hw3⟩ : ∃ w3, w3 = V1.alloc (.cells #[.int .i64 q, .slice a2 n2 c3] 28) := ⟨_, rfl⟩
    have O3 : Own w3 V1.heap.size 28 [.int .i64 q, .slice a2 n2 c3] := by rw [hw3]; exact ⟨_, heap_alloc_new _ _, rfl⟩
    have B3 : Below V0.heap.size V0 w3 := by rw [hw3]; exact hb2.alloc hb2.size _
    have c0 := O3.cell 0
    simp only [List.getElem?_cons_zero] at c0
    clear hr2 hb2 hx HSI
    go_wp2_with fail
    rw [← hw3]
    clear hw3
    go_region_with (go_at_call 7; refine ((unhide HSS) _ B3.drew).mono ?_; rintro e w4 ⟨s4, rfl, hr4, hb4⟩; obtain ⟨a4, n4, c4, rfl⟩ := hr4.shape; have hf0 := fun W => Mb.fldV q a4 n4 c4 W; have cc := ((show Own w3.drew V1.heap.size 28 [.int .i64 q, .slice a2 n2 c3] from O3).below hb4 O3.lt).cell 0; simp only [List.getElem?_cons_zero] at cc)
    all_goals
      go_wp2_with fail
      go_ret
      exact ⟨ret_bool (by simp), unhide FIN _ (B3.drew.trans (hb4.mono B3.size))⟩

namespace lawMembers
theorem own : ownKnob Try.prog.godebug = none := by kernel_rfl
theorem laidOut : laidOutB Try.prog = true := by kernel_rfl

set_option maxRecDepth 100000 in
theorem lifted (os : Os) (started : os.Started) (H : Type) (enc : TypeId × Value → H) :
    ReturnsInHanded {} Try.checked os 3 .any (Rows.fnMembersSpec.pre6 enc Try.prog Try.f3 Rows.fnMembersRow.domain false) (Rows.fnMembersSpec.post enc Try.prog Try.f3 false true false false) := by
  refine returnsInHanded_of_change (C := Try.checked) own started (by kernel_rfl) Try.func3
    (ChangeSpec.witness6 (enc := enc) (C := Try.checked) false ⟨#[], #[.slice none 0 0], []⟩ 8 (by kernel_rfl) (by kernel_rfl) (by kernel_rfl) (by kernel_rfl)) ?_
  intro W base args ds gs before hval0 hW hcnd _
  have hval : ∀ (j : Nat) t v, Try.f3.params[j]? = some t → args[j]? = some v → Value.okWide Try.prog W .any base t v := hval0
  have hW' := hW
  obtain ⟨p, q, hA0, hV, rfl, hfz, hnd⟩ := hW
  have hA : DataW.TrodAll enc Try.prog W 0 (fun _ => true) true Try.f3.params.toList args.toList ds p := hA0
  rw [Try.params3] at hA hval
  obtain ⟨v0, vs0, d0, ds0, p0, q0, hargs, rfl, rfl, h0, r0⟩ := trodAll_cons hA
  obtain ⟨rfl, rfl, rfl⟩ := trodAll_nil r0
  obtain rfl : args = #[v0] := by cases args; simp_all
  obtain ⟨rfl, rfl⟩ := trodVars_none hV
  obtain ⟨a0, len0, cap0, rfl⟩ := okWide_slice Try.underlying22 (hval 0 22 v0 rfl rfl)
  have k0 := h0
  have lt0 : ∀ x ∈ p0, x.block < W.heap.size := by obtain ⟨m, hm⟩ := k0; exact DataW.trod_lt m _ _ _ hm
  have w0 : BytR W a0 len0 cap0 := by
    obtain ⟨fuel, hf⟩ := h0
    exact open_bytR hf
  clear hA0 hval0
  refine (lawMembers_walk a0 len0 cap0 W w0).mono fun e W' ⟨he, bel⟩ => ?_
  subst he
  exact ⟨_, rfl, _, _, _, [], _, [], hW', trodAll_mk1 (shut_bool Try.underlying4 _), (trodAll_cons_mk (Below.trod laidOut (by kernel_rfl) (of_decide_eq_true (by kernel_rfl)) k0 bel lt0) trodAll_mk0), rfl, bel.frame _, fun h => by cases h⟩

theorem over : Rows.fnMembersRow.holds Try.pinned (OpenSpec.ofChange Rows.fnMembersSpec) :=
  OpenClaim.holds_of_wide 3 Try.f3 rfl rfl rfl rfl rfl rfl rfl ⟨rfl, rfl, rfl, rfl, rfl⟩ rfl rfl rfl rfl rfl (by kernel_rfl) Try.func3 (by kernel_rfl)
    (of_decide_eq_true (by kernel_rfl)) (by unfold Func.isWrapper; first | (rw [if_pos (by decide +kernel)]; kernel_rfl) | (rw [if_neg (by decide +kernel)]; exact ⟨rfl, rfl⟩))
    (fun os started H enc _ => lifted os started H enc)
end lawMembers

/-- The statement. -/
theorem lawMembers_holds : Rows.FnMembersSaid := lawMembers.over
#print axioms lawMembers_holds

end Go.Proofs.Ytfcglmkbfdfaeaa
