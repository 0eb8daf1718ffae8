/-
  impl.appendText.
  spec.EncodeValue and impl.EncodeValue answer encV.
-/
import Derived.Test.YtikeffckhklhbaaGreatDoorX00
import Derived.Test.YtikeffckhklhbaaGreatDoorX01
import Derived.Test.YtikeffckhklhbaaGreatDoorX12
import Derived.Test.YtikeffckhklhbaaGreatDoorX18
import Derived.Test.YtikeffckhklhbaaGreatDoorX20
import Derived.Test.YtikeffckhklhbaaGreatDoorX21
import Derived.Test.YtikeffckhklhbaaGreatDoorX38
import Derived.BigQuiet
import Derived.BigRegion
import Derived.Deep.LoopGhost
import Derived.Deep.QuietTactic
import Derived.Deep.RegionHeld3
import Derived.Deep.RegionWith
import Derived.Laws.BytesArg
import Derived.Laws.RangeAny
import Derived.Lib.ItoaLen
import Derived.Lib.ItoaNum
import Derived.RegionTactic
namespace Go.Proofs.YtikeffckhklhbaaGreatDoor
open Go.RowKit
set_option linter.unusedVariables false
set_option linter.unusedSimpArgs false

theorem room_gen {L l f K C b : Nat} (hl : l + K * (f + 1) ≤ C) (h : L ≤ l + 1) (hab : b + 1 ≤ K) : L + K * f + b ≤ C := by
  rw [Nat.mul_add, Nat.mul_one] at hl
  generalize K * f = x at *
  omega
theorem room_in {L l f : Nat} (hl : l + 100000 * (f + 1) ≤ 100000000000) (h : L ≤ l + 1) : L + 100000 * f + 99990 ≤ 100000000000 := room_gen hl h (by decide)

set_option maxRecDepth 100000 in
set_option maxHeartbeats 4000000 in
theorem appendText_0 (f : Nat) (v : List M.Cl) (a b off cap base : Nat) (tv : Value) (l : List UInt8) (w : World) (hv : M.valueFault v = 0) (ha : a < v.length) (hpl : (part v a).length ≤ f + 1) (hrow : Row w b off v) (hb : b < base) (hcap : v.length ≤ cap) (hbase0 : base ≤ w.heap.size) (hl : l.length + 100000 * (f + 1) ≤ 100000000000) (hown0 : w.ownsRow base 5 1 tv l.length (J.bv l)) (htab : Lib.TabBelow Tryz.prog base w "internal/strconv.uint64pow10" .u64 Lib.pow10Tab) (hk : (v.getD a M.zero).kind = 0) :
    Calls Tryz.prog 16 #[tv, .slice (some ⟨b, off, none⟩) v.length cap, .int .i64 a] w fun e w' => ∃ v', e = .returned v' ∧ w'.ownsRow base 5 1 v' (l ++ J.encL (f + 1) (part v a)).length (J.bv (l ++ J.encL (f + 1) (part v a))) ∧ Bk base w w' := by
  obtain ⟨i0, hi, hz0, hz1, hz2⟩ := info_parts Tryz.info5
  obtain ⟨va, vn, vc, rfl⟩ := owns_shape hown0
  have h200 := (M.fault_zero hv).2.1
  have haI : (a : Int) < (v.length : Int) := by omega
  have hc := J.code_text (code_at hv a ha)
  obtain ⟨f0, f1, f2, f3, f4⟩ := hrow a ha
  rw [hk] at f0
  obtain ⟨R, hR⟩ : ∃ R, R = J.encL (f + 1) (part v a) := ⟨_, rfl⟩
  have HR := hide (hR.trans (J.encL_part f hv ha))
  rw [← hR]
  clear hR
  rw [hk] at HR
  clear hk
  generalize v.getD a M.zero = c at *
  obtain ⟨w0, hw0⟩ : ∃ w0, w0 = w.alloc (.cells #[.int .i64 0, .int .i64 c.num, .string c.text, .string c.key, .int .i64 c.n] 41) := ⟨_, rfl⟩
  have B0 : Bk base w w0 := by rw [hw0]; exact (Bk.refl _ _).alloc hbase0 _
  have hX0 : Own w0 w.heap.size 41 [.int .i64 0, .int .i64 c.num, .string c.text, .string c.key, .int .i64 c.n] := by rw [hw0]; exact ⟨_, heap_alloc_new _ _, rfl⟩
  have hown := hown0.alloc (.cells #[.int .i64 0, .int .i64 c.num, .string c.text, .string c.key, .int .i64 c.n] 41)
  rw [← hw0] at hown
  have HE := hide (show R = [110, 117, 108, 108] by rw [unhide HR]; rfl)
  have hb63 : l.length + (⟨#[110, 117, 108, 108]⟩ : ByteArray).size ≤ maxLen := by unfold maxLen; show l.length + 4 ≤ _; omega
  have hby : l.length + (⟨#[110, 117, 108, 108]⟩ : ByteArray).size ≤ 140737488355328 := by show l.length + 4 ≤ _; omega
  have hbw : base ≤ w0.heap.size := by have := B0.size; omega
  have hbse := hide (J.owns_base hown)
  have hbsr := hide (J.owns_row hown)
  have HO := hide hown
  clear hown hown0 HR hpl htab hv hc hrow
  rw [hw0] at HO hbsr hbw
  go_enter Tryz.func16, Tryz.ntmps16
  go_wp2_with (at_builtin; refine Lib.wpList_append_own_string _ rfl (.tmp 16) (.const (.string ⟨#[110, 117, 108, 108]⟩)) 22 9 rfl base 5 i0 Tryz.underlying22 Tryz.underlying9 hi hz0 hz1 hz2 _ l.length _ rfl (unhide HO) ⟨#[110, 117, 108, 108]⟩ rfl hb63 hby hbw ?_)
  intro v1 w1 ho1 hg1 _
  rw [← hw0] at hg1 hbsr hbw
  have B1 : Bk base w w1 := B0.grown hg1 hbw (unhide hbse) (unhide hbsr)
  have fin := hide (show w1.ownsRow base 5 1 v1 (l ++ R).length (J.bv (l ++ R)) by
    rw [unhide HE, List.length_append, ← bv_app]; exact ho1)
  clear ho1 hg1 HO hbse hbsr
  obtain ⟨xa1, xn1, xc1, rfl⟩ := owns_shape (unhide fin)
  go_wp2_with fail
  go_ret
  refine ⟨_, rfl, ?_, B1⟩
  first | exact unhide fin | (have h := unhide fin; rw [List.length_append] at h; exact h)

set_option maxRecDepth 100000 in
set_option maxHeartbeats 4000000 in
theorem appendText_1 (f : Nat) (v : List M.Cl) (a b off cap base : Nat) (tv : Value) (l : List UInt8) (w : World) (hv : M.valueFault v = 0) (ha : a < v.length) (hpl : (part v a).length ≤ f + 1) (hrow : Row w b off v) (hb : b < base) (hcap : v.length ≤ cap) (hbase0 : base ≤ w.heap.size) (hl : l.length + 100000 * (f + 1) ≤ 100000000000) (hown0 : w.ownsRow base 5 1 tv l.length (J.bv l)) (htab : Lib.TabBelow Tryz.prog base w "internal/strconv.uint64pow10" .u64 Lib.pow10Tab) (hk : (v.getD a M.zero).kind = 1) :
    Calls Tryz.prog 16 #[tv, .slice (some ⟨b, off, none⟩) v.length cap, .int .i64 a] w fun e w' => ∃ v', e = .returned v' ∧ w'.ownsRow base 5 1 v' (l ++ J.encL (f + 1) (part v a)).length (J.bv (l ++ J.encL (f + 1) (part v a))) ∧ Bk base w w' := by
  obtain ⟨i0, hi, hz0, hz1, hz2⟩ := info_parts Tryz.info5
  obtain ⟨va, vn, vc, rfl⟩ := owns_shape hown0
  have h200 := (M.fault_zero hv).2.1
  have haI : (a : Int) < (v.length : Int) := by omega
  have hc := J.code_text (code_at hv a ha)
  obtain ⟨f0, f1, f2, f3, f4⟩ := hrow a ha
  rw [hk] at f0
  obtain ⟨R, hR⟩ : ∃ R, R = J.encL (f + 1) (part v a) := ⟨_, rfl⟩
  have HR := hide (hR.trans (J.encL_part f hv ha))
  rw [← hR]
  clear hR
  rw [hk] at HR
  clear hk
  generalize v.getD a M.zero = c at *
  obtain ⟨w0, hw0⟩ : ∃ w0, w0 = w.alloc (.cells #[.int .i64 1, .int .i64 c.num, .string c.text, .string c.key, .int .i64 c.n] 41) := ⟨_, rfl⟩
  have B0 : Bk base w w0 := by rw [hw0]; exact (Bk.refl _ _).alloc hbase0 _
  have hX0 : Own w0 w.heap.size 41 [.int .i64 1, .int .i64 c.num, .string c.text, .string c.key, .int .i64 c.n] := by rw [hw0]; exact ⟨_, heap_alloc_new _ _, rfl⟩
  have hown := hown0.alloc (.cells #[.int .i64 1, .int .i64 c.num, .string c.text, .string c.key, .int .i64 c.n] 41)
  rw [← hw0] at hown
  have HE := hide (show R = [102, 97, 108, 115, 101] by rw [unhide HR]; rfl)
  have hb63 : l.length + (⟨#[102, 97, 108, 115, 101]⟩ : ByteArray).size ≤ maxLen := by unfold maxLen; show l.length + 5 ≤ _; omega
  have hby : l.length + (⟨#[102, 97, 108, 115, 101]⟩ : ByteArray).size ≤ 140737488355328 := by show l.length + 5 ≤ _; omega
  have hbw : base ≤ w0.heap.size := by have := B0.size; omega
  have hbse := hide (J.owns_base hown)
  have hbsr := hide (J.owns_row hown)
  have HO := hide hown
  clear hown hown0 HR hpl htab hv hc hrow
  rw [hw0] at HO hbsr hbw
  go_enter Tryz.func16, Tryz.ntmps16
  go_wp2_with (at_builtin; refine Lib.wpList_append_own_string _ rfl (.tmp 20) (.const (.string ⟨#[102, 97, 108, 115, 101]⟩)) 22 9 rfl base 5 i0 Tryz.underlying22 Tryz.underlying9 hi hz0 hz1 hz2 _ l.length _ rfl (unhide HO) ⟨#[102, 97, 108, 115, 101]⟩ rfl hb63 hby hbw ?_)
  intro v1 w1 ho1 hg1 _
  rw [← hw0] at hg1 hbsr hbw
  have B1 : Bk base w w1 := B0.grown hg1 hbw (unhide hbse) (unhide hbsr)
  have fin := hide (show w1.ownsRow base 5 1 v1 (l ++ R).length (J.bv (l ++ R)) by
    rw [unhide HE, List.length_append, ← bv_app]; exact ho1)
  clear ho1 hg1 HO hbse hbsr
  obtain ⟨xa1, xn1, xc1, rfl⟩ := owns_shape (unhide fin)
  go_wp2_with fail
  go_ret
  refine ⟨_, rfl, ?_, B1⟩
  first | exact unhide fin | (have h := unhide fin; rw [List.length_append] at h; exact h)

set_option maxRecDepth 100000 in
set_option maxHeartbeats 4000000 in
theorem appendText_2 (f : Nat) (v : List M.Cl) (a b off cap base : Nat) (tv : Value) (l : List UInt8) (w : World) (hv : M.valueFault v = 0) (ha : a < v.length) (hpl : (part v a).length ≤ f + 1) (hrow : Row w b off v) (hb : b < base) (hcap : v.length ≤ cap) (hbase0 : base ≤ w.heap.size) (hl : l.length + 100000 * (f + 1) ≤ 100000000000) (hown0 : w.ownsRow base 5 1 tv l.length (J.bv l)) (htab : Lib.TabBelow Tryz.prog base w "internal/strconv.uint64pow10" .u64 Lib.pow10Tab) (hk : (v.getD a M.zero).kind = 2) :
    Calls Tryz.prog 16 #[tv, .slice (some ⟨b, off, none⟩) v.length cap, .int .i64 a] w fun e w' => ∃ v', e = .returned v' ∧ w'.ownsRow base 5 1 v' (l ++ J.encL (f + 1) (part v a)).length (J.bv (l ++ J.encL (f + 1) (part v a))) ∧ Bk base w w' := by
  obtain ⟨i0, hi, hz0, hz1, hz2⟩ := info_parts Tryz.info5
  obtain ⟨va, vn, vc, rfl⟩ := owns_shape hown0
  have h200 := (M.fault_zero hv).2.1
  have haI : (a : Int) < (v.length : Int) := by omega
  have hc := J.code_text (code_at hv a ha)
  obtain ⟨f0, f1, f2, f3, f4⟩ := hrow a ha
  rw [hk] at f0
  obtain ⟨R, hR⟩ : ∃ R, R = J.encL (f + 1) (part v a) := ⟨_, rfl⟩
  have HR := hide (hR.trans (J.encL_part f hv ha))
  rw [← hR]
  clear hR
  rw [hk] at HR
  clear hk
  generalize v.getD a M.zero = c at *
  obtain ⟨w0, hw0⟩ : ∃ w0, w0 = w.alloc (.cells #[.int .i64 2, .int .i64 c.num, .string c.text, .string c.key, .int .i64 c.n] 41) := ⟨_, rfl⟩
  have B0 : Bk base w w0 := by rw [hw0]; exact (Bk.refl _ _).alloc hbase0 _
  have hX0 : Own w0 w.heap.size 41 [.int .i64 2, .int .i64 c.num, .string c.text, .string c.key, .int .i64 c.n] := by rw [hw0]; exact ⟨_, heap_alloc_new _ _, rfl⟩
  have hown := hown0.alloc (.cells #[.int .i64 2, .int .i64 c.num, .string c.text, .string c.key, .int .i64 c.n] 41)
  rw [← hw0] at hown
  have HE := hide (show R = [116, 114, 117, 101] by rw [unhide HR]; rfl)
  have hb63 : l.length + (⟨#[116, 114, 117, 101]⟩ : ByteArray).size ≤ maxLen := by unfold maxLen; show l.length + 4 ≤ _; omega
  have hby : l.length + (⟨#[116, 114, 117, 101]⟩ : ByteArray).size ≤ 140737488355328 := by show l.length + 4 ≤ _; omega
  have hbw : base ≤ w0.heap.size := by have := B0.size; omega
  have hbse := hide (J.owns_base hown)
  have hbsr := hide (J.owns_row hown)
  have HO := hide hown
  clear hown hown0 HR hpl htab hv hc hrow
  rw [hw0] at HO hbsr hbw
  go_enter Tryz.func16, Tryz.ntmps16
  go_wp2_with (at_builtin; refine Lib.wpList_append_own_string _ rfl (.tmp 24) (.const (.string ⟨#[116, 114, 117, 101]⟩)) 22 9 rfl base 5 i0 Tryz.underlying22 Tryz.underlying9 hi hz0 hz1 hz2 _ l.length _ rfl (unhide HO) ⟨#[116, 114, 117, 101]⟩ rfl hb63 hby hbw ?_)
  intro v1 w1 ho1 hg1 _
  rw [← hw0] at hg1 hbsr hbw
  have B1 : Bk base w w1 := B0.grown hg1 hbw (unhide hbse) (unhide hbsr)
  have fin := hide (show w1.ownsRow base 5 1 v1 (l ++ R).length (J.bv (l ++ R)) by
    rw [unhide HE, List.length_append, ← bv_app]; exact ho1)
  clear ho1 hg1 HO hbse hbsr
  obtain ⟨xa1, xn1, xc1, rfl⟩ := owns_shape (unhide fin)
  go_wp2_with fail
  go_ret
  refine ⟨_, rfl, ?_, B1⟩
  first | exact unhide fin | (have h := unhide fin; rw [List.length_append] at h; exact h)

set_option maxRecDepth 100000 in
set_option maxHeartbeats 4000000 in
theorem appendText_3 (f : Nat) (v : List M.Cl) (a b off cap base : Nat) (tv : Value) (l : List UInt8) (w : World) (hv : M.valueFault v = 0) (ha : a < v.length) (hpl : (part v a).length ≤ f + 1) (hrow : Row w b off v) (hb : b < base) (hcap : v.length ≤ cap) (hbase0 : base ≤ w.heap.size) (hl : l.length + 100000 * (f + 1) ≤ 100000000000) (hown0 : w.ownsRow base 5 1 tv l.length (J.bv l)) (htab : Lib.TabBelow Tryz.prog base w "internal/strconv.uint64pow10" .u64 Lib.pow10Tab) (hk : (v.getD a M.zero).kind = 3) :
    Calls Tryz.prog 16 #[tv, .slice (some ⟨b, off, none⟩) v.length cap, .int .i64 a] w fun e w' => ∃ v', e = .returned v' ∧ w'.ownsRow base 5 1 v' (l ++ J.encL (f + 1) (part v a)).length (J.bv (l ++ J.encL (f + 1) (part v a))) ∧ Bk base w w' := by
  obtain ⟨i0, hi, hz0, hz1, hz2⟩ := info_parts Tryz.info5
  obtain ⟨va, vn, vc, rfl⟩ := owns_shape hown0
  have h200 := (M.fault_zero hv).2.1
  have haI : (a : Int) < (v.length : Int) := by omega
  have hc := J.code_text (code_at hv a ha)
  obtain ⟨f0, f1, f2, f3, f4⟩ := hrow a ha
  rw [hk] at f0
  obtain ⟨R, hR⟩ : ∃ R, R = J.encL (f + 1) (part v a) := ⟨_, rfl⟩
  have HR := hide (hR.trans (J.encL_part f hv ha))
  rw [← hR]
  clear hR
  rw [hk] at HR
  clear hk
  generalize v.getD a M.zero = c at *
  obtain ⟨w0, hw0⟩ : ∃ w0, w0 = w.alloc (.cells #[.int .i64 3, .int .i64 c.num, .string c.text, .string c.key, .int .i64 c.n] 41) := ⟨_, rfl⟩
  have B0 : Bk base w w0 := by rw [hw0]; exact (Bk.refl _ _).alloc hbase0 _
  have hX0 : Own w0 w.heap.size 41 [.int .i64 3, .int .i64 c.num, .string c.text, .string c.key, .int .i64 c.n] := by rw [hw0]; exact ⟨_, heap_alloc_new _ _, rfl⟩
  have hown := hown0.alloc (.cells #[.int .i64 3, .int .i64 c.num, .string c.text, .string c.key, .int .i64 c.n] 41)
  rw [← hw0] at hown
  have HE := hide (show R = Lib.itoa c.num by rw [unhide HR]; rfl)
  have HI := hide (Tryz.strconv_AppendInt_10 base l.length c.num (by omega) (by omega) (.slice va vn vc) (J.bv l) w0 hown (by have := B0.size; omega) (by omega) (htab.on B0.1))
  rw [hw0] at HI
  clear hown hown0 HR hpl htab hv hc hrow
  go_enter Tryz.func16, Tryz.ntmps16
  go_wp2_with fail
  refine (unhide HI).mono ?_
  rintro e w1 ⟨v1, rfl, ho1, hb1, hk1⟩
  rw [← hw0] at hb1 hk1
  have B1 : Bk base w w1 := B0.trans ⟨hb1, hk1⟩
  have fin := hide (show w1.ownsRow base 5 1 v1 (l ++ R).length (J.bv (l ++ R)) by
    rw [unhide HE, List.length_append, ← bv_app]; exact ho1)
  clear ho1 HI hb1 hk1
  obtain ⟨xa1, xn1, xc1, rfl⟩ := owns_shape (unhide fin)
  go_wp2_with fail
  go_ret
  refine ⟨_, rfl, ?_, B1⟩
  first | exact unhide fin | (have h := unhide fin; rw [List.length_append] at h; exact h)

set_option maxRecDepth 100000 in
set_option maxHeartbeats 4000000 in
theorem appendText_4 (f : Nat) (v : List M.Cl) (a b off cap base : Nat) (tv : Value) (l : List UInt8) (w : World) (hv : M.valueFault v = 0) (ha : a < v.length) (hpl : (part v a).length ≤ f + 1) (hrow : Row w b off v) (hb : b < base) (hcap : v.length ≤ cap) (hbase0 : base ≤ w.heap.size) (hl : l.length + 100000 * (f + 1) ≤ 100000000000) (hown0 : w.ownsRow base 5 1 tv l.length (J.bv l)) (htab : Lib.TabBelow Tryz.prog base w "internal/strconv.uint64pow10" .u64 Lib.pow10Tab) (hk : (v.getD a M.zero).kind = 4) :
    Calls Tryz.prog 16 #[tv, .slice (some ⟨b, off, none⟩) v.length cap, .int .i64 a] w fun e w' => ∃ v', e = .returned v' ∧ w'.ownsRow base 5 1 v' (l ++ J.encL (f + 1) (part v a)).length (J.bv (l ++ J.encL (f + 1) (part v a))) ∧ Bk base w w' := by
  obtain ⟨i0, hi, hz0, hz1, hz2⟩ := info_parts Tryz.info5
  obtain ⟨va, vn, vc, rfl⟩ := owns_shape hown0
  have h200 := (M.fault_zero hv).2.1
  have haI : (a : Int) < (v.length : Int) := by omega
  have hc := J.code_text (code_at hv a ha)
  obtain ⟨f0, f1, f2, f3, f4⟩ := hrow a ha
  rw [hk] at f0
  obtain ⟨R, hR⟩ : ∃ R, R = J.encL (f + 1) (part v a) := ⟨_, rfl⟩
  have HR := hide (hR.trans (J.encL_part f hv ha))
  rw [← hR]
  clear hR
  rw [hk] at HR
  clear hk
  generalize v.getD a M.zero = c at *
  obtain ⟨w0, hw0⟩ : ∃ w0, w0 = w.alloc (.cells #[.int .i64 4, .int .i64 c.num, .string c.text, .string c.key, .int .i64 c.n] 41) := ⟨_, rfl⟩
  have B0 : Bk base w w0 := by rw [hw0]; exact (Bk.refl _ _).alloc hbase0 _
  have hX0 : Own w0 w.heap.size 41 [.int .i64 4, .int .i64 c.num, .string c.text, .string c.key, .int .i64 c.n] := by rw [hw0]; exact ⟨_, heap_alloc_new _ _, rfl⟩
  have hown := hown0.alloc (.cells #[.int .i64 4, .int .i64 c.num, .string c.text, .string c.key, .int .i64 c.n] 41)
  rw [← hw0] at hown
  have HE := hide (show R = J.quote c.text by rw [unhide HR]; rfl)
  have HI := hide (appendQuoted_any base (.slice va vn vc) l c.text w0 hown hc.1 (by omega) (by have := B0.size; omega))
  rw [hw0] at HI
  clear hown hown0 HR hpl htab hv hc hrow
  go_enter Tryz.func16, Tryz.ntmps16
  go_wp2_with fail
  refine (unhide HI).mono ?_
  rintro e w1 ⟨v1, rfl, ho1, hk1⟩
  rw [← hw0] at hk1
  have B1 : Bk base w w1 := B0.trans hk1
  have fin := hide (show w1.ownsRow base 5 1 v1 (l ++ R).length (J.bv (l ++ R)) by
    rw [unhide HE]; exact ho1)
  clear ho1 HI hk1
  obtain ⟨xa1, xn1, xc1, rfl⟩ := owns_shape (unhide fin)
  go_wp2_with fail
  go_ret
  refine ⟨_, rfl, ?_, B1⟩
  first | exact unhide fin | (have h := unhide fin; rw [List.length_append] at h; exact h)

set_option maxRecDepth 100000 in
set_option maxHeartbeats 4000000 in
theorem appendText_5 (f : Nat) (IH : Hid (AppSays f)) (v : List M.Cl) (a b off cap base : Nat) (tv : Value) (l : List UInt8) (w : World) (hv : M.valueFault v = 0) (ha : a < v.length) (hpl : (part v a).length ≤ f + 1) (hrow : Row w b off v) (hb : b < base) (hcap : v.length ≤ cap) (hbase0 : base ≤ w.heap.size) (hl : l.length + 100000 * (f + 1) ≤ 100000000000) (hown0 : w.ownsRow base 5 1 tv l.length (J.bv l)) (htab : Lib.TabBelow Tryz.prog base w "internal/strconv.uint64pow10" .u64 Lib.pow10Tab) (hk : (v.getD a M.zero).kind = 5) :
    Calls Tryz.prog 16 #[tv, .slice (some ⟨b, off, none⟩) v.length cap, .int .i64 a] w fun e w' => ∃ v', e = .returned v' ∧ w'.ownsRow base 5 1 v' (l ++ J.encL (f + 1) (part v a)).length (J.bv (l ++ J.encL (f + 1) (part v a))) ∧ Bk base w w' := by
  obtain ⟨i0, hi, hz0, hz1, hz2⟩ := info_parts Tryz.info5
  obtain ⟨va, vn, vc, rfl⟩ := owns_shape hown0
  have h200 := (M.fault_zero hv).2.1
  have haI : (a : Int) < (v.length : Int) := by omega
  have hc := J.code_text (code_at hv a ha)
  obtain ⟨f0, f1, f2, f3, f4⟩ := hrow a ha
  rw [hk] at f0
  obtain ⟨R, hR⟩ : ∃ R, R = J.encL (f + 1) (part v a) := ⟨_, rfl⟩
  have HR := hide (hR.trans (J.encL_part f hv ha))
  rw [← hR]
  clear hR
  rw [hk] at HR
  have hbd := J.parts_bd f hv ha hpl false _ (Nat.le_refl _)
  have HP := hide (fun (wq : World) (Lq : List UInt8) (tq : Value) (hq : Bk base w wq) (hlq : Lq.length + 100000 * f + 99990 ≤ 100000000000) (hoq : wq.ownsRow base 5 1 tq Lq.length (J.bv Lq)) => appendParts_5 f IH v a b off cap base tq Lq wq hv ha hpl (hrow.below hq.1 hb) hb hcap (Nat.le_trans hbase0 hq.size) hlq hoq (htab.on hq.1) hk)
  clear hk
  generalize v.getD a M.zero = c at *
  obtain ⟨w0, hw0⟩ : ∃ w0, w0 = w.alloc (.cells #[.int .i64 5, .int .i64 c.num, .string c.text, .string c.key, .int .i64 c.n] 41) := ⟨_, rfl⟩
  have B0 : Bk base w w0 := by rw [hw0]; exact (Bk.refl _ _).alloc hbase0 _
  have hX0 : Own w0 w.heap.size 41 [.int .i64 5, .int .i64 c.num, .string c.text, .string c.key, .int .i64 c.n] := by rw [hw0]; exact ⟨_, heap_alloc_new _ _, rfl⟩
  have hown := hown0.alloc (.cells #[.int .i64 5, .int .i64 c.num, .string c.text, .string c.key, .int .i64 c.n] 41)
  rw [← hw0] at hown
  have HE := hide (show R = [91] ++ J.partsK (J.encL f) false (keysAt v a) (subs v a) (M.arity v a) ++ [93] by rw [unhide HR]; rfl)
  have hbw : base ≤ w0.heap.size := by have := B0.size; omega
  have hsz0 : w0.heap.size = w.heap.size + 1 := by rw [hw0]; simp
  have hown1 := hide (fun o => hown.alloc o)
  have hone := hide (J.one_word w0 91)
  rw [hsz0] at hone
  have honep := hide (J.one_plain 91)
  have hb63 : l.length + 1 ≤ maxLen := by unfold maxLen; omega
  have hby : (l.length + 1) * 1 ≤ 140737488355328 := by omega
  have hbse := hide (J.owns_base hown)
  have hbsr := hide (fun o => J.owns_row (hown.alloc o))
  have HB0 := hide B0
  have HW0 := hide hw0
  have hbase : base ≤ w.heap.size + 1 + 1 := by omega
  rw [hw0] at hown1 hone hbsr
  clear hown0 HR hpl htab hv hc hrow hX0 hown B0 hw0 hbw hsz0
  go_enter Tryz.func16, Tryz.ntmps16
  go_wp2_with (at_builtin; refine wpList_append_own _ rfl (.tmp 40) (.tmp 41) 22 rfl base 5 i0 (.int .u8 0) 1 1 Tryz.underlying22 hi hz0 hz1 hz2 rfl (by decide) _ l.length _ rfl ((unhide hown1) _) ⟨w.heap.size + 1, 0, none⟩ 1 1 [.int .u8 91] rfl rfl (unhide hone) (unhide honep) hb63 hby (by simpa using hbase) ?_)
  intro vw1 w1 w1h hgw1 _
  have w1b : Bk base w w1 := by
    have hB := unhide HB0
    rw [unhide HW0] at hB
    exact (hB.alloc (by simp; omega) _).grown hgw1 (by simpa using hbase) (unhide hbse) ((unhide hbsr) _)
  obtain ⟨Lw1, ew1⟩ : ∃ L', L' = l ++ [91] := ⟨_, rfl⟩
  have w1o : w1.ownsRow base 5 1 vw1 Lw1.length (J.bv Lw1) := by rw [ew1, List.length_append, ← J.bv_snoc]; exact w1h
  have lw1 : Lw1.length ≤ l.length + 1 := by rw [ew1, List.length_append]; exact Nat.le_refl _
  have hlq := room_in hl lw1
  have Ew1 := hide ew1
  have HLQ := hide hlq
  clear hgw1 w1h ew1 hown1 hone honep hb63 hby hbase hbse hbsr HB0 HW0 hlq
  obtain ⟨xa1, xn1, xc1, rfl⟩ := owns_shape w1o
  go_wp2_with fail
  refine ((unhide HP) _ _ _ w1b (unhide HLQ) w1o).mono ?_
  rintro e w2 ⟨v2, rfl, w2o0, w2k⟩
  have w2b : Bk base w w2 := w1b.trans w2k
  obtain ⟨Lw2, ew2⟩ : ∃ L', L' = Lw1 ++ J.partsK (J.encL f) false (keysAt v a) (subs v a) (M.arity v a) := ⟨_, rfl⟩
  have w2o : w2.ownsRow base 5 1 v2 Lw2.length (J.bv Lw2) := by rw [ew2]; exact w2o0
  have lw2 : Lw2.length ≤ Lw1.length + 80000 := by rw [ew2, List.length_append]; omega
  have Ew2 := hide ew2
  clear ew2 w2o0 w2k w1o w1b
  obtain ⟨xa2, xn2, xc2, rfl⟩ := owns_shape w2o
  have hown1 := hide (fun o => (w2o).alloc o)
  have hone := hide (J.one_word w2 93)
  have honep := hide (J.one_plain 93)
  have hb63 : (Lw2).length + 1 ≤ maxLen := by unfold maxLen; omega
  have hby : ((Lw2).length + 1) * 1 ≤ 140737488355328 := by omega
  have hbase : base ≤ w2.heap.size + 1 := by have := (w2b).size; omega
  have hbse := hide (J.owns_base w2o)
  have hbsr := hide (fun o => J.owns_row ((w2o).alloc o))
  clear w2o
  go_wp2_with (at_builtin; refine wpList_append_own _ rfl (.tmp 45) (.tmp 46) 22 rfl base 5 i0 (.int .u8 0) 1 1 Tryz.underlying22 hi hz0 hz1 hz2 rfl (by decide) _ (Lw2).length _ rfl ((unhide hown1) _) ⟨w2.heap.size, 0, none⟩ 1 1 [.int .u8 93] rfl rfl (unhide hone) (unhide honep) hb63 hby (by simpa using hbase) ?_)
  intro vw3 w3 w3h hgw3 _
  have w3b : Bk base w w3 := ((w2b).alloc (by have := (w2b).size; omega) _).grown hgw3 (by simpa using hbase) (unhide hbse) ((unhide hbsr) _)
  obtain ⟨Lw3, ew3⟩ : ∃ L', L' = Lw2 ++ [93] := ⟨_, rfl⟩
  have w3o : w3.ownsRow base 5 1 vw3 Lw3.length (J.bv Lw3) := by rw [ew3, List.length_append, ← J.bv_snoc]; exact w3h
  have lw3 : Lw3.length ≤ (Lw2).length + 1 := by rw [ew3, List.length_append]; exact Nat.le_refl _
  have Ew3 := hide ew3
  clear hgw3 w3h ew3 hown1 hone honep hb63 hby hbase hbse hbsr
  obtain ⟨xaw3, xnw3, xcw3, rfl⟩ := owns_shape w3o
  have fin := hide (show w3.ownsRow base 5 1 (.slice xaw3 xnw3 xcw3) (l ++ R).length (J.bv (l ++ R)) by
    have e : Lw3 = l ++ R := by
      rw [unhide Ew3, unhide Ew2, unhide Ew1, unhide HE]
      simp only [List.append_assoc]
    rw [← e]; exact w3o)
  clear w3o
  go_wp2_with fail
  go_ret
  refine ⟨_, rfl, ?_, w3b⟩
  first | exact unhide fin | (have h := unhide fin; rw [List.length_append] at h; exact h)

set_option maxRecDepth 100000 in
set_option maxHeartbeats 4000000 in
theorem appendText_6 (f : Nat) (IH : Hid (AppSays f)) (v : List M.Cl) (a b off cap base : Nat) (tv : Value) (l : List UInt8) (w : World) (hv : M.valueFault v = 0) (ha : a < v.length) (hpl : (part v a).length ≤ f + 1) (hrow : Row w b off v) (hb : b < base) (hcap : v.length ≤ cap) (hbase0 : base ≤ w.heap.size) (hl : l.length + 100000 * (f + 1) ≤ 100000000000) (hown0 : w.ownsRow base 5 1 tv l.length (J.bv l)) (htab : Lib.TabBelow Tryz.prog base w "internal/strconv.uint64pow10" .u64 Lib.pow10Tab) (hk : (v.getD a M.zero).kind = 6) :
    Calls Tryz.prog 16 #[tv, .slice (some ⟨b, off, none⟩) v.length cap, .int .i64 a] w fun e w' => ∃ v', e = .returned v' ∧ w'.ownsRow base 5 1 v' (l ++ J.encL (f + 1) (part v a)).length (J.bv (l ++ J.encL (f + 1) (part v a))) ∧ Bk base w w' := by
  obtain ⟨i0, hi, hz0, hz1, hz2⟩ := info_parts Tryz.info5
  obtain ⟨va, vn, vc, rfl⟩ := owns_shape hown0
  have h200 := (M.fault_zero hv).2.1
  have haI : (a : Int) < (v.length : Int) := by omega
  have hc := J.code_text (code_at hv a ha)
  obtain ⟨f0, f1, f2, f3, f4⟩ := hrow a ha
  rw [hk] at f0
  obtain ⟨R, hR⟩ : ∃ R, R = J.encL (f + 1) (part v a) := ⟨_, rfl⟩
  have HR := hide (hR.trans (J.encL_part f hv ha))
  rw [← hR]
  clear hR
  rw [hk] at HR
  have hbd := J.parts_bd f hv ha hpl true _ (Nat.le_refl _)
  have HP := hide (fun (wq : World) (Lq : List UInt8) (tq : Value) (hq : Bk base w wq) (hlq : Lq.length + 100000 * f + 99990 ≤ 100000000000) (hoq : wq.ownsRow base 5 1 tq Lq.length (J.bv Lq)) => appendParts_6 f IH v a b off cap base tq Lq wq hv ha hpl (hrow.below hq.1 hb) hb hcap (Nat.le_trans hbase0 hq.size) hlq hoq (htab.on hq.1) hk)
  clear hk
  generalize v.getD a M.zero = c at *
  obtain ⟨w0, hw0⟩ : ∃ w0, w0 = w.alloc (.cells #[.int .i64 6, .int .i64 c.num, .string c.text, .string c.key, .int .i64 c.n] 41) := ⟨_, rfl⟩
  have B0 : Bk base w w0 := by rw [hw0]; exact (Bk.refl _ _).alloc hbase0 _
  have hX0 : Own w0 w.heap.size 41 [.int .i64 6, .int .i64 c.num, .string c.text, .string c.key, .int .i64 c.n] := by rw [hw0]; exact ⟨_, heap_alloc_new _ _, rfl⟩
  have hown := hown0.alloc (.cells #[.int .i64 6, .int .i64 c.num, .string c.text, .string c.key, .int .i64 c.n] 41)
  rw [← hw0] at hown
  have HE := hide (show R = [123] ++ J.partsK (J.encL f) true (keysAt v a) (subs v a) (M.arity v a) ++ [125] by rw [unhide HR]; rfl)
  have hbw : base ≤ w0.heap.size := by have := B0.size; omega
  have hsz0 : w0.heap.size = w.heap.size + 1 := by rw [hw0]; simp
  have hown1 := hide (fun o => hown.alloc o)
  have hone := hide (J.one_word w0 123)
  rw [hsz0] at hone
  have honep := hide (J.one_plain 123)
  have hb63 : l.length + 1 ≤ maxLen := by unfold maxLen; omega
  have hby : (l.length + 1) * 1 ≤ 140737488355328 := by omega
  have hbse := hide (J.owns_base hown)
  have hbsr := hide (fun o => J.owns_row (hown.alloc o))
  have HB0 := hide B0
  have HW0 := hide hw0
  have hbase : base ≤ w.heap.size + 1 + 1 := by omega
  rw [hw0] at hown1 hone hbsr
  clear hown0 HR hpl htab hv hc hrow hX0 hown B0 hw0 hbw hsz0
  go_enter Tryz.func16, Tryz.ntmps16
  go_wp2_with (at_builtin; refine wpList_append_own _ rfl (.tmp 48) (.tmp 49) 22 rfl base 5 i0 (.int .u8 0) 1 1 Tryz.underlying22 hi hz0 hz1 hz2 rfl (by decide) _ l.length _ rfl ((unhide hown1) _) ⟨w.heap.size + 1, 0, none⟩ 1 1 [.int .u8 123] rfl rfl (unhide hone) (unhide honep) hb63 hby (by simpa using hbase) ?_)
  intro vw1 w1 w1h hgw1 _
  have w1b : Bk base w w1 := by
    have hB := unhide HB0
    rw [unhide HW0] at hB
    exact (hB.alloc (by simp; omega) _).grown hgw1 (by simpa using hbase) (unhide hbse) ((unhide hbsr) _)
  obtain ⟨Lw1, ew1⟩ : ∃ L', L' = l ++ [123] := ⟨_, rfl⟩
  have w1o : w1.ownsRow base 5 1 vw1 Lw1.length (J.bv Lw1) := by rw [ew1, List.length_append, ← J.bv_snoc]; exact w1h
  have lw1 : Lw1.length ≤ l.length + 1 := by rw [ew1, List.length_append]; exact Nat.le_refl _
  have hlq := room_in hl lw1
  have Ew1 := hide ew1
  have HLQ := hide hlq
  clear hgw1 w1h ew1 hown1 hone honep hb63 hby hbase hbse hbsr HB0 HW0 hlq
  obtain ⟨xa1, xn1, xc1, rfl⟩ := owns_shape w1o
  go_wp2_with fail
  refine ((unhide HP) _ _ _ w1b (unhide HLQ) w1o).mono ?_
  rintro e w2 ⟨v2, rfl, w2o0, w2k⟩
  have w2b : Bk base w w2 := w1b.trans w2k
  obtain ⟨Lw2, ew2⟩ : ∃ L', L' = Lw1 ++ J.partsK (J.encL f) true (keysAt v a) (subs v a) (M.arity v a) := ⟨_, rfl⟩
  have w2o : w2.ownsRow base 5 1 v2 Lw2.length (J.bv Lw2) := by rw [ew2]; exact w2o0
  have lw2 : Lw2.length ≤ Lw1.length + 80000 := by rw [ew2, List.length_append]; omega
  have Ew2 := hide ew2
  clear ew2 w2o0 w2k w1o w1b
  obtain ⟨xa2, xn2, xc2, rfl⟩ := owns_shape w2o
  have hown1 := hide (fun o => (w2o).alloc o)
  have hone := hide (J.one_word w2 125)
  have honep := hide (J.one_plain 125)
  have hb63 : (Lw2).length + 1 ≤ maxLen := by unfold maxLen; omega
  have hby : ((Lw2).length + 1) * 1 ≤ 140737488355328 := by omega
  have hbase : base ≤ w2.heap.size + 1 := by have := (w2b).size; omega
  have hbse := hide (J.owns_base w2o)
  have hbsr := hide (fun o => J.owns_row ((w2o).alloc o))
  clear w2o
  go_wp2_with (at_builtin; refine wpList_append_own _ rfl (.tmp 53) (.tmp 54) 22 rfl base 5 i0 (.int .u8 0) 1 1 Tryz.underlying22 hi hz0 hz1 hz2 rfl (by decide) _ (Lw2).length _ rfl ((unhide hown1) _) ⟨w2.heap.size, 0, none⟩ 1 1 [.int .u8 125] rfl rfl (unhide hone) (unhide honep) hb63 hby (by simpa using hbase) ?_)
  intro vw3 w3 w3h hgw3 _
  have w3b : Bk base w w3 := ((w2b).alloc (by have := (w2b).size; omega) _).grown hgw3 (by simpa using hbase) (unhide hbse) ((unhide hbsr) _)
  obtain ⟨Lw3, ew3⟩ : ∃ L', L' = Lw2 ++ [125] := ⟨_, rfl⟩
  have w3o : w3.ownsRow base 5 1 vw3 Lw3.length (J.bv Lw3) := by rw [ew3, List.length_append, ← J.bv_snoc]; exact w3h
  have lw3 : Lw3.length ≤ (Lw2).length + 1 := by rw [ew3, List.length_append]; exact Nat.le_refl _
  have Ew3 := hide ew3
  clear hgw3 w3h ew3 hown1 hone honep hb63 hby hbase hbse hbsr
  obtain ⟨xaw3, xnw3, xcw3, rfl⟩ := owns_shape w3o
  have fin := hide (show w3.ownsRow base 5 1 (.slice xaw3 xnw3 xcw3) (l ++ R).length (J.bv (l ++ R)) by
    have e : Lw3 = l ++ R := by
      rw [unhide Ew3, unhide Ew2, unhide Ew1, unhide HE]
      simp only [List.append_assoc]
    rw [← e]; exact w3o)
  clear w3o
  go_wp2_with fail
  go_ret
  refine ⟨_, rfl, ?_, w3b⟩
  first | exact unhide fin | (have h := unhide fin; rw [List.length_append] at h; exact h)

theorem appendText_any (f : Nat) : AppSays f := by
  induction f with
  | zero =>
    intro v a b off cap base tv l w hv ha hpl
    have := part_len hv ha
    have := (end_gt hv ha).1
    omega
  | succ f ih =>
    intro v a b off cap base tv l w hv ha hpl hrow hb hcap hbase hl hown htab
    have hc := J.code_text (code_at hv a ha)
    by_cases k0 : (v.getD a M.zero).kind = 0
    · exact appendText_0 f v a b off cap base tv l w hv ha hpl hrow hb hcap hbase hl hown htab k0
    by_cases k1 : (v.getD a M.zero).kind = 1
    · exact appendText_1 f v a b off cap base tv l w hv ha hpl hrow hb hcap hbase hl hown htab k1
    by_cases k2 : (v.getD a M.zero).kind = 2
    · exact appendText_2 f v a b off cap base tv l w hv ha hpl hrow hb hcap hbase hl hown htab k2
    by_cases k3 : (v.getD a M.zero).kind = 3
    · exact appendText_3 f v a b off cap base tv l w hv ha hpl hrow hb hcap hbase hl hown htab k3
    by_cases k4 : (v.getD a M.zero).kind = 4
    · exact appendText_4 f v a b off cap base tv l w hv ha hpl hrow hb hcap hbase hl hown htab k4
    by_cases k5 : (v.getD a M.zero).kind = 5
    · exact appendText_5 f (hide ih) v a b off cap base tv l w hv ha hpl hrow hb hcap hbase hl hown htab k5
    by_cases k6 : (v.getD a M.zero).kind = 6
    · exact appendText_6 f (hide ih) v a b off cap base tv l w hv ha hpl hrow hb hcap hbase hl hown htab k6
    omega

end Go.Proofs.YtikeffckhklhbaaGreatDoor

namespace Go.Proofs.YtikeffckhklhbaaGreatDoor
open Go.RowKit
set_option linter.unusedVariables false
set_option linter.unusedSimpArgs false

theorem itoa_ne (n : Int) : Lib.itoa n ≠ [] := by
  unfold Lib.itoa
  split
  · simp
  · intro h
    have h2 := Lib.decDigits_length n.toNat
    rw [h] at h2
    unfold Lib.nDigits at h2
    split at h2 <;> simp at h2
theorem encL_ne (f : Nat) (v : List M.Cl) : J.encL (f + 1) v ≠ [] := by
  rw [J.encL]
  repeat' split
  all_goals (first | exact itoa_ne _ | (unfold J.quote; simp; done) | (intro h; simp at h; done) | simp)
def encV (v : List M.Cl) : Int × ByteArray := if M.valueFault v = 0 then (0, J.bytes (J.encL 200 v)) else (M.valueFault v, ByteArray.empty)
theorem encV_ok {v : List M.Cl} (h : M.valueFault v = 0) : encV v = (0, J.bytes (J.encL 200 v)) := by unfold encV; rw [if_pos h]
theorem encV_no {v : List M.Cl} (h : M.valueFault v ≠ 0) : encV v = (M.valueFault v, ByteArray.empty) := by unfold encV; rw [if_neg h]

set_option maxRecDepth 100000 in
set_option maxHeartbeats 1000000 in
theorem implEncode_any (v : List M.Cl) (b off cap : Nat) (w : World) (hrow : Row w b off v) (hb : b < w.heap.size) (hn : v.length ≤ 1048576) (hcap : v.length ≤ cap) (hok : ∀ c ∈ v, c.ok) (htab : Lib.TabBelow Tryz.prog w.heap.size w "internal/strconv.uint64pow10" .u64 Lib.pow10Tab) :
    Calls Tryz.prog 7 #[.slice (some ⟨b, off, none⟩) v.length cap] w fun e w' => e = .returned (.agg #[.int .i64 (encV v).1, .string (encV v).2]) ∧ Below w.heap.size w w' := by
  have OK := hide hok
  clear hok
  have HR := hide hrow
  have HT := hide htab
  clear hrow htab
  obtain ⟨w0, hw0⟩ : ∃ w0, w0 = w.alloc (.cells #[.int .i64 0, .string ByteArray.empty] 27) := ⟨_, rfl⟩
  have B0 : Below w.heap.size w w0 := by rw [hw0]; exact (Below.refl _ _).alloc (Nat.le_refl _) _
  have hX0 : Own w0 w.heap.size 27 [.int .i64 0, .string ByteArray.empty] := by rw [hw0]; exact ⟨_, heap_alloc_new _ _, rfl⟩
  go_enter Tryz.func7, Tryz.ntmps7
  go_wp2_with fail
  try (rw [show (w.alloc (.cells #[.int .i64 0, .string { data := #[] }] 27)) = w0 from hw0.symm])
  refine (implFault_any v b off cap _ ((unhide HR).below B0 hb) (Nat.lt_of_lt_of_le hb B0.size) hn hcap (unhide OK)).mono ?_
  rintro e1 w1 ⟨rfl, hb1⟩
  have B1 : Below w.heap.size w w1 := B0.trans (hb1.mono B0.size)
  have hX1 := hX0.below hb1 hX0.lt
  clear hb1 B0 hX0 hw0
  have r0 := hX1.cell 0
  have r1 := hX1.cell 1
  have z0 := hX1.frozen 0
  have z1 := hX1.frozen 1
  simp only [List.getElem?_cons_zero, List.getElem?_cons_succ] at r0 r1
  by_cases hz : M.valueFault v = 0
  · have hl1 := (M.fault_zero hz).1
    have hpl : (part v 0).length ≤ 200 := by have := part_len hz (show 0 < v.length by omega); have := (end_gt hz (show 0 < v.length by omega)).2; have := (M.fault_zero hz).2.1; omega
    have hwhole : J.encL 200 (part v 0) = J.encL 200 v := J.encL_whole 199 hz (by omega)
    have fin := hide (encV_ok hz)
    have HE := hide (fun wq (hq : Below w.heap.size w wq) => appendText_any 200 v 0 b off cap wq.heap.size (.slice none 0 0) [] wq hz (by omega) hpl ((unhide HR).below hq hb) (Nat.lt_of_lt_of_le hb hq.size) hcap (Nat.le_refl _) (by simp) (World.ownsRow_nil _ _ _ _) (fun w' hb' => (unhide HT) w' (hq.trans (hb'.mono hq.size))))
    have hne := hide (encL_ne 199 v)
    rw [hwhole] at HE
    rw [hz]
    clear hz hpl hwhole hl1
    go_wp2_with fail
    refine ((unhide HE) _ B1).mono ?_
    rintro e w2 ⟨vq, rfl, ho2, hk2⟩
    rw [List.nil_append] at ho2
    have hb2 := hk2.1
    have B2 : Below w.heap.size w w2 := B1.trans (hb2.mono B1.size)
    have hX2 := hX1.below hb2 hX1.lt
    clear r0 r1 z0 z1 hb2 B1 hX1 hk2 HE
    have r0 := hX2.cell 0
    have r1 := hX2.cell 1
    have z0 := hX2.frozen 0
    have z1 := hX2.frozen 1
    simp only [List.getElem?_cons_zero, List.getElem?_cons_succ] at r0 r1
    rcases ho2.2 with ⟨_, h0⟩ | ⟨g, cap, cur, rfl, hgb, _⟩
    · exact absurd (List.length_eq_zero_iff.1 h0) (unhide hne)
    have hcv := show (convert 22 9 (.slice (some ⟨g, 0, none⟩) (J.encL 200 v).length cap)).run Tryz.prog w2 = .ok (.string (J.bytes (J.encL 200 v))) w2 from
      run_convert_bytes_back _ _ _ 5 _ cap _ Tryz.underlying22 Tryz.underlying5 Tryz.underlying9 (J.owns_cells ho2)
    clear ho2 hX2
    generalize (J.encL 200 v).length = n at *
    generalize J.bytes (J.encL 200 v) = q at *
    go_wp2_with fail
    refine bodyPost_ret (v := .agg #[.int .i64 0, .string q]) (by simp [results, Tryz.results7, go_sem, r0, r1]) rfl ⟨by rw [unhide fin], ?_⟩
    exact (B2.setCell (Nat.le_refl _) _).setCell (Nat.le_refl _) _
  · have fin := hide (encV_no hz)
    have hz' : (M.valueFault v == 0) = false := by simp [hz]
    clear hz
    generalize M.valueFault v = q at *
    go_wp2_with fail
    refine bodyPost_ret (v := .agg #[.int .i64 q, .string ByteArray.empty]) (by simp [results, Tryz.results7, go_sem, r0, r1]; try rfl) rfl ⟨by rw [unhide fin], ?_⟩
    exact (B1.setCell (Nat.le_refl _) _).setCell (Nat.le_refl _) _

end Go.Proofs.YtikeffckhklhbaaGreatDoor
