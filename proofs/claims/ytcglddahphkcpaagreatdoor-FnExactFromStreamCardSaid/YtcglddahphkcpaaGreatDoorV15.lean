/-
  impl.appendText.
-/
import Derived.Test.YtcglddahphkcpaaGreatDoorV14
namespace Go.Proofs.YtcglddahphkcpaaGreatDoor
open Go.RowKit
set_option linter.unusedVariables false
set_option linter.unusedSimpArgs false

theorem room_gen {L l f K C b : Nat} (hl : l + K * (f + 1) ≤ C) (h : L ≤ l + 1) (hab : b + 1 ≤ K) : L + K * f + b ≤ C := by
  rw [Nat.mul_add, Nat.mul_one] at hl
  generalize K * f = x at *
  omega
theorem room_in {L l f : Nat} (hl : l + 100000 * (f + 1) ≤ 100000000000) (h : L ≤ l + 1) : L + 100000 * f + 99990 ≤ 100000000000 := room_gen hl h (by decide)

set_option maxRecDepth 100000 in
set_option maxHeartbeats 4000000 in
theorem appendText_0 (f : Nat) (v : List M.Cl) (a b off cap base : Nat) (tv : Value) (l : List UInt8) (w : World) (hv : M.valueFault v = 0) (ha : a < v.length) (hpl : (part v a).length ≤ f + 1) (hrow : Row w b off v) (hb : b < base) (hcap : v.length ≤ cap) (hbase0 : base ≤ w.heap.size) (hl : l.length + 100000 * (f + 1) ≤ 100000000000) (hown0 : w.ownsRow base 5 1 tv l.length (J.bv l)) (htab : Lib.TabBelow Tryz.prog base w "internal/strconv.uint64pow10" .u64 Lib.pow10Tab) (hk : (v.getD a M.zero).kind = 0) :
    Calls Tryz.prog 81 #[tv, .slice (some ⟨b, off, none⟩) v.length cap, .int .i64 a] w fun e w' => ∃ v', e = .returned v' ∧ w'.ownsRow base 5 1 v' (l ++ J.encL (f + 1) (part v a)).length (J.bv (l ++ J.encL (f + 1) (part v a))) ∧ Bk base w w' := by
  obtain ⟨i0, hi, hz0, hz1, hz2⟩ := info_parts Tryz.info5
  obtain ⟨va, vn, vc, rfl⟩ := owns_shape hown0
  have h200 := (M.fault_zero hv).2.1
  have haI : (a : Int) < (v.length : Int) := by omega
  have hc := J.code_text (code_at hv a ha)
  obtain ⟨f0, f1, f2, f3, f4⟩ := hrow a ha
  rw [hk] at f0
  obtain ⟨R, hR⟩ : ∃ R, R = J.encL (f + 1) (part v a) := ⟨_, rfl⟩
  have HR := hide (hR.trans (J.encL_part f hv ha))
  rw [← hR]
  clear hR
  rw [hk] at HR
  clear hk
  generalize v.getD a M.zero = c at *
  obtain ⟨w0, hw0⟩ : ∃ w0, w0 = w.alloc (.cells #[.int .i64 0, .int .i64 c.num, .string c.text, .string c.key, .int .i64 c.n] 111) := ⟨_, rfl⟩
  have B0 : Bk base w w0 := by rw [hw0]; exact (Bk.refl _ _).alloc hbase0 _
  have hX0 : Own w0 w.heap.size 111 [.int .i64 0, .int .i64 c.num, .string c.text, .string c.key, .int .i64 c.n] := by rw [hw0]; exact ⟨_, heap_alloc_new _ _, rfl⟩
  have hown := hown0.alloc (.cells #[.int .i64 0, .int .i64 c.num, .string c.text, .string c.key, .int .i64 c.n] 111)
  rw [← hw0] at hown
  have HE := hide (show R = [110, 117, 108, 108] by rw [unhide HR]; rfl)
  have hb63 : l.length + (⟨#[110, 117, 108, 108]⟩ : ByteArray).size ≤ maxLen := by unfold maxLen; show l.length + 4 ≤ _; omega
  have hby : l.length + (⟨#[110, 117, 108, 108]⟩ : ByteArray).size ≤ 140737488355328 := by show l.length + 4 ≤ _; omega
  have hbw : base ≤ w0.heap.size := by have := B0.size; omega
  have hbse := hide (J.owns_base hown)
  have hbsr := hide (J.owns_row hown)
  have HO := hide hown
  clear hown hown0 HR hpl htab hv hc hrow
  rw [hw0] at HO hbsr hbw
  go_enter Tryz.func81, Tryz.ntmps81
  go_wp2_with (at_builtin; refine Lib.wpList_append_own_string _ rfl (.tmp 16) (.const (.string ⟨#[110, 117, 108, 108]⟩)) 37 9 rfl base 5 i0 Tryz.underlying37 Tryz.underlying9 hi hz0 hz1 hz2 _ l.length _ rfl (unhide HO) ⟨#[110, 117, 108, 108]⟩ rfl hb63 hby hbw ?_)
  intro v1 w1 ho1 hg1 _
  rw [← hw0] at hg1 hbsr hbw
  have B1 : Bk base w w1 := B0.grown hg1 hbw (unhide hbse) (unhide hbsr)
  have fin := hide (show w1.ownsRow base 5 1 v1 (l ++ R).length (J.bv (l ++ R)) by
    rw [unhide HE, List.length_append, ← bv_app]; exact ho1)
  clear ho1 hg1 HO hbse hbsr
  obtain ⟨xa1, xn1, xc1, rfl⟩ := owns_shape (unhide fin)
  go_wp2_with fail
  go_ret
  refine ⟨_, rfl, ?_, B1⟩
  first | exact unhide fin | (have h := unhide fin; rw [List.length_append] at h; exact h)

set_option maxRecDepth 100000 in
set_option maxHeartbeats 4000000 in
theorem appendText_1 (f : Nat) (v : List M.Cl) (a b off cap base : Nat) (tv : Value) (l : List UInt8) (w : World) (hv : M.valueFault v = 0) (ha : a < v.length) (hpl : (part v a).length ≤ f + 1) (hrow : Row w b off v) (hb : b < base) (hcap : v.length ≤ cap) (hbase0 : base ≤ w.heap.size) (hl : l.length + 100000 * (f + 1) ≤ 100000000000) (hown0 : w.ownsRow base 5 1 tv l.length (J.bv l)) (htab : Lib.TabBelow Tryz.prog base w "internal/strconv.uint64pow10" .u64 Lib.pow10Tab) (hk : (v.getD a M.zero).kind = 1) :
    Calls Tryz.prog 81 #[tv, .slice (some ⟨b, off, none⟩) v.length cap, .int .i64 a] w fun e w' => ∃ v', e = .returned v' ∧ w'.ownsRow base 5 1 v' (l ++ J.encL (f + 1) (part v a)).length (J.bv (l ++ J.encL (f + 1) (part v a))) ∧ Bk base w w' := by
  obtain ⟨i0, hi, hz0, hz1, hz2⟩ := info_parts Tryz.info5
  obtain ⟨va, vn, vc, rfl⟩ := owns_shape hown0
  have h200 := (M.fault_zero hv).2.1
  have haI : (a : Int) < (v.length : Int) := by omega
  have hc := J.code_text (code_at hv a ha)
  obtain ⟨f0, f1, f2, f3, f4⟩ := hrow a ha
  rw [hk] at f0
  obtain ⟨R, hR⟩ : ∃ R, R = J.encL (f + 1) (part v a) := ⟨_, rfl⟩
  have HR := hide (hR.trans (J.encL_part f hv ha))
  rw [← hR]
  clear hR
  rw [hk] at HR
  clear hk
  generalize v.getD a M.zero = c at *
  obtain ⟨w0, hw0⟩ : ∃ w0, w0 = w.alloc (.cells #[.int .i64 1, .int .i64 c.num, .string c.text, .string c.key, .int .i64 c.n] 111) := ⟨_, rfl⟩
  have B0 : Bk base w w0 := by rw [hw0]; exact (Bk.refl _ _).alloc hbase0 _
  have hX0 : Own w0 w.heap.size 111 [.int .i64 1, .int .i64 c.num, .string c.text, .string c.key, .int .i64 c.n] := by rw [hw0]; exact ⟨_, heap_alloc_new _ _, rfl⟩
  have hown := hown0.alloc (.cells #[.int .i64 1, .int .i64 c.num, .string c.text, .string c.key, .int .i64 c.n] 111)
  rw [← hw0] at hown
  have HE := hide (show R = [102, 97, 108, 115, 101] by rw [unhide HR]; rfl)
  have hb63 : l.length + (⟨#[102, 97, 108, 115, 101]⟩ : ByteArray).size ≤ maxLen := by unfold maxLen; show l.length + 5 ≤ _; omega
  have hby : l.length + (⟨#[102, 97, 108, 115, 101]⟩ : ByteArray).size ≤ 140737488355328 := by show l.length + 5 ≤ _; omega
  have hbw : base ≤ w0.heap.size := by have := B0.size; omega
  have hbse := hide (J.owns_base hown)
  have hbsr := hide (J.owns_row hown)
  have HO := hide hown
  clear hown hown0 HR hpl htab hv hc hrow
  rw [hw0] at HO hbsr hbw
  go_enter Tryz.func81, Tryz.ntmps81
  go_wp2_with (at_builtin; refine Lib.wpList_append_own_string _ rfl (.tmp 20) (.const (.string ⟨#[102, 97, 108, 115, 101]⟩)) 37 9 rfl base 5 i0 Tryz.underlying37 Tryz.underlying9 hi hz0 hz1 hz2 _ l.length _ rfl (unhide HO) ⟨#[102, 97, 108, 115, 101]⟩ rfl hb63 hby hbw ?_)
  intro v1 w1 ho1 hg1 _
  rw [← hw0] at hg1 hbsr hbw
  have B1 : Bk base w w1 := B0.grown hg1 hbw (unhide hbse) (unhide hbsr)
  have fin := hide (show w1.ownsRow base 5 1 v1 (l ++ R).length (J.bv (l ++ R)) by
    rw [unhide HE, List.length_append, ← bv_app]; exact ho1)
  clear ho1 hg1 HO hbse hbsr
  obtain ⟨xa1, xn1, xc1, rfl⟩ := owns_shape (unhide fin)
  go_wp2_with fail
  go_ret
  refine ⟨_, rfl, ?_, B1⟩
  first | exact unhide fin | (have h := unhide fin; rw [List.length_append] at h; exact h)

set_option maxRecDepth 100000 in
set_option maxHeartbeats 4000000 in
theorem appendText_2 (f : Nat) (v : List M.Cl) (a b off cap base : Nat) (tv : Value) (l : List UInt8) (w : World) (hv : M.valueFault v = 0) (ha : a < v.length) (hpl : (part v a).length ≤ f + 1) (hrow : Row w b off v) (hb : b < base) (hcap : v.length ≤ cap) (hbase0 : base ≤ w.heap.size) (hl : l.length + 100000 * (f + 1) ≤ 100000000000) (hown0 : w.ownsRow base 5 1 tv l.length (J.bv l)) (htab : Lib.TabBelow Tryz.prog base w "internal/strconv.uint64pow10" .u64 Lib.pow10Tab) (hk : (v.getD a M.zero).kind = 2) :
    Calls Tryz.prog 81 #[tv, .slice (some ⟨b, off, none⟩) v.length cap, .int .i64 a] w fun e w' => ∃ v', e = .returned v' ∧ w'.ownsRow base 5 1 v' (l ++ J.encL (f + 1) (part v a)).length (J.bv (l ++ J.encL (f + 1) (part v a))) ∧ Bk base w w' := by
  obtain ⟨i0, hi, hz0, hz1, hz2⟩ := info_parts Tryz.info5
  obtain ⟨va, vn, vc, rfl⟩ := owns_shape hown0
  have h200 := (M.fault_zero hv).2.1
  have haI : (a : Int) < (v.length : Int) := by omega
  have hc := J.code_text (code_at hv a ha)
  obtain ⟨f0, f1, f2, f3, f4⟩ := hrow a ha
  rw [hk] at f0
  obtain ⟨R, hR⟩ : ∃ R, R = J.encL (f + 1) (part v a) := ⟨_, rfl⟩
  have HR := hide (hR.trans (J.encL_part f hv ha))
  rw [← hR]
  clear hR
  rw [hk] at HR
  clear hk
  generalize v.getD a M.zero = c at *
  obtain ⟨w0, hw0⟩ : ∃ w0, w0 = w.alloc (.cells #[.int .i64 2, .int .i64 c.num, .string c.text, .string c.key, .int .i64 c.n] 111) := ⟨_, rfl⟩
  have B0 : Bk base w w0 := by rw [hw0]; exact (Bk.refl _ _).alloc hbase0 _
  have hX0 : Own w0 w.heap.size 111 [.int .i64 2, .int .i64 c.num, .string c.text, .string c.key, .int .i64 c.n] := by rw [hw0]; exact ⟨_, heap_alloc_new _ _, rfl⟩
  have hown := hown0.alloc (.cells #[.int .i64 2, .int .i64 c.num, .string c.text, .string c.key, .int .i64 c.n] 111)
  rw [← hw0] at hown
  have HE := hide (show R = [116, 114, 117, 101] by rw [unhide HR]; rfl)
  have hb63 : l.length + (⟨#[116, 114, 117, 101]⟩ : ByteArray).size ≤ maxLen := by unfold maxLen; show l.length + 4 ≤ _; omega
  have hby : l.length + (⟨#[116, 114, 117, 101]⟩ : ByteArray).size ≤ 140737488355328 := by show l.length + 4 ≤ _; omega
  have hbw : base ≤ w0.heap.size := by have := B0.size; omega
  have hbse := hide (J.owns_base hown)
  have hbsr := hide (J.owns_row hown)
  have HO := hide hown
  clear hown hown0 HR hpl htab hv hc hrow
  rw [hw0] at HO hbsr hbw
  go_enter Tryz.func81, Tryz.ntmps81
  go_wp2_with (at_builtin; refine Lib.wpList_append_own_string _ rfl (.tmp 24) (.const (.string ⟨#[116, 114, 117, 101]⟩)) 37 9 rfl base 5 i0 Tryz.underlying37 Tryz.underlying9 hi hz0 hz1 hz2 _ l.length _ rfl (unhide HO) ⟨#[116, 114, 117, 101]⟩ rfl hb63 hby hbw ?_)
  intro v1 w1 ho1 hg1 _
  rw [← hw0] at hg1 hbsr hbw
  have B1 : Bk base w w1 := B0.grown hg1 hbw (unhide hbse) (unhide hbsr)
  have fin := hide (show w1.ownsRow base 5 1 v1 (l ++ R).length (J.bv (l ++ R)) by
    rw [unhide HE, List.length_append, ← bv_app]; exact ho1)
  clear ho1 hg1 HO hbse hbsr
  obtain ⟨xa1, xn1, xc1, rfl⟩ := owns_shape (unhide fin)
  go_wp2_with fail
  go_ret
  refine ⟨_, rfl, ?_, B1⟩
  first | exact unhide fin | (have h := unhide fin; rw [List.length_append] at h; exact h)

set_option maxRecDepth 100000 in
set_option maxHeartbeats 4000000 in
theorem appendText_3 (f : Nat) (v : List M.Cl) (a b off cap base : Nat) (tv : Value) (l : List UInt8) (w : World) (hv : M.valueFault v = 0) (ha : a < v.length) (hpl : (part v a).length ≤ f + 1) (hrow : Row w b off v) (hb : b < base) (hcap : v.length ≤ cap) (hbase0 : base ≤ w.heap.size) (hl : l.length + 100000 * (f + 1) ≤ 100000000000) (hown0 : w.ownsRow base 5 1 tv l.length (J.bv l)) (htab : Lib.TabBelow Tryz.prog base w "internal/strconv.uint64pow10" .u64 Lib.pow10Tab) (hk : (v.getD a M.zero).kind = 3) :
    Calls Tryz.prog 81 #[tv, .slice (some ⟨b, off, none⟩) v.length cap, .int .i64 a] w fun e w' => ∃ v', e = .returned v' ∧ w'.ownsRow base 5 1 v' (l ++ J.encL (f + 1) (part v a)).length (J.bv (l ++ J.encL (f + 1) (part v a))) ∧ Bk base w w' := by
  obtain ⟨i0, hi, hz0, hz1, hz2⟩ := info_parts Tryz.info5
  obtain ⟨va, vn, vc, rfl⟩ := owns_shape hown0
  have h200 := (M.fault_zero hv).2.1
  have haI : (a : Int) < (v.length : Int) := by omega
  have hc := J.code_text (code_at hv a ha)
  obtain ⟨f0, f1, f2, f3, f4⟩ := hrow a ha
  rw [hk] at f0
  obtain ⟨R, hR⟩ : ∃ R, R = J.encL (f + 1) (part v a) := ⟨_, rfl⟩
  have HR := hide (hR.trans (J.encL_part f hv ha))
  rw [← hR]
  clear hR
  rw [hk] at HR
  clear hk
  generalize v.getD a M.zero = c at *
  obtain ⟨w0, hw0⟩ : ∃ w0, w0 = w.alloc (.cells #[.int .i64 3, .int .i64 c.num, .string c.text, .string c.key, .int .i64 c.n] 111) := ⟨_, rfl⟩
  have B0 : Bk base w w0 := by rw [hw0]; exact (Bk.refl _ _).alloc hbase0 _
  have hX0 : Own w0 w.heap.size 111 [.int .i64 3, .int .i64 c.num, .string c.text, .string c.key, .int .i64 c.n] := by rw [hw0]; exact ⟨_, heap_alloc_new _ _, rfl⟩
  have hown := hown0.alloc (.cells #[.int .i64 3, .int .i64 c.num, .string c.text, .string c.key, .int .i64 c.n] 111)
  rw [← hw0] at hown
  have HE := hide (show R = Lib.itoa c.num by rw [unhide HR]; rfl)
  have HI := hide (Tryz.strconv_AppendInt_10 base l.length c.num (by omega) (by omega) (.slice va vn vc) (J.bv l) w0 hown (by have := B0.size; omega) (by omega) (htab.on B0.1))
  rw [hw0] at HI
  clear hown hown0 HR hpl htab hv hc hrow
  go_enter Tryz.func81, Tryz.ntmps81
  go_wp2_with fail
  refine (unhide HI).mono ?_
  rintro e w1 ⟨v1, rfl, ho1, hb1, hk1⟩
  rw [← hw0] at hb1 hk1
  have B1 : Bk base w w1 := B0.trans ⟨hb1, hk1⟩
  have fin := hide (show w1.ownsRow base 5 1 v1 (l ++ R).length (J.bv (l ++ R)) by
    rw [unhide HE, List.length_append, ← bv_app]; exact ho1)
  clear ho1 HI hb1 hk1
  obtain ⟨xa1, xn1, xc1, rfl⟩ := owns_shape (unhide fin)
  go_wp2_with fail
  go_ret
  refine ⟨_, rfl, ?_, B1⟩
  first | exact unhide fin | (have h := unhide fin; rw [List.length_append] at h; exact h)

set_option maxRecDepth 100000 in
set_option maxHeartbeats 4000000 in
theorem appendText_4 (f : Nat) (v : List M.Cl) (a b off cap base : Nat) (tv : Value) (l : List UInt8) (w : World) (hv : M.valueFault v = 0) (ha : a < v.length) (hpl : (part v a).length ≤ f + 1) (hrow : Row w b off v) (hb : b < base) (hcap : v.length ≤ cap) (hbase0 : base ≤ w.heap.size) (hl : l.length + 100000 * (f + 1) ≤ 100000000000) (hown0 : w.ownsRow base 5 1 tv l.length (J.bv l)) (htab : Lib.TabBelow Tryz.prog base w "internal/strconv.uint64pow10" .u64 Lib.pow10Tab) (hk : (v.getD a M.zero).kind = 4) :
    Calls Tryz.prog 81 #[tv, .slice (some ⟨b, off, none⟩) v.length cap, .int .i64 a] w fun e w' => ∃ v', e = .returned v' ∧ w'.ownsRow base 5 1 v' (l ++ J.encL (f + 1) (part v a)).length (J.bv (l ++ J.encL (f + 1) (part v a))) ∧ Bk base w w' := by
  obtain ⟨i0, hi, hz0, hz1, hz2⟩ := info_parts Tryz.info5
  obtain ⟨va, vn, vc, rfl⟩ := owns_shape hown0
  have h200 := (M.fault_zero hv).2.1
  have haI : (a : Int) < (v.length : Int) := by omega
  have hc := J.code_text (code_at hv a ha)
  obtain ⟨f0, f1, f2, f3, f4⟩ := hrow a ha
  rw [hk] at f0
  obtain ⟨R, hR⟩ : ∃ R, R = J.encL (f + 1) (part v a) := ⟨_, rfl⟩
  have HR := hide (hR.trans (J.encL_part f hv ha))
  rw [← hR]
  clear hR
  rw [hk] at HR
  clear hk
  generalize v.getD a M.zero = c at *
  obtain ⟨w0, hw0⟩ : ∃ w0, w0 = w.alloc (.cells #[.int .i64 4, .int .i64 c.num, .string c.text, .string c.key, .int .i64 c.n] 111) := ⟨_, rfl⟩
  have B0 : Bk base w w0 := by rw [hw0]; exact (Bk.refl _ _).alloc hbase0 _
  have hX0 : Own w0 w.heap.size 111 [.int .i64 4, .int .i64 c.num, .string c.text, .string c.key, .int .i64 c.n] := by rw [hw0]; exact ⟨_, heap_alloc_new _ _, rfl⟩
  have hown := hown0.alloc (.cells #[.int .i64 4, .int .i64 c.num, .string c.text, .string c.key, .int .i64 c.n] 111)
  rw [← hw0] at hown
  have HE := hide (show R = J.quote c.text by rw [unhide HR]; rfl)
  have HI := hide (appendQuoted_any base (.slice va vn vc) l c.text w0 hown hc.1 (by omega) (by have := B0.size; omega))
  rw [hw0] at HI
  clear hown hown0 HR hpl htab hv hc hrow
  go_enter Tryz.func81, Tryz.ntmps81
  go_wp2_with fail
  refine (unhide HI).mono ?_
  rintro e w1 ⟨v1, rfl, ho1, hk1⟩
  rw [← hw0] at hk1
  have B1 : Bk base w w1 := B0.trans hk1
  have fin := hide (show w1.ownsRow base 5 1 v1 (l ++ R).length (J.bv (l ++ R)) by
    rw [unhide HE]; exact ho1)
  clear ho1 HI hk1
  obtain ⟨xa1, xn1, xc1, rfl⟩ := owns_shape (unhide fin)
  go_wp2_with fail
  go_ret
  refine ⟨_, rfl, ?_, B1⟩
  first | exact unhide fin | (have h := unhide fin; rw [List.length_append] at h; exact h)

set_option maxRecDepth 100000 in
set_option maxHeartbeats 4000000 in
theorem appendText_5 (f : Nat) (IH : Hid (AppSays f)) (v : List M.Cl) (a b off cap base : Nat) (tv : Value) (l : List UInt8) (w : World) (hv : M.valueFault v = 0) (ha : a < v.length) (hpl : (part v a).length ≤ f + 1) (hrow : Row w b off v) (hb : b < base) (hcap : v.length ≤ cap) (hbase0 : base ≤ w.heap.size) (hl : l.length + 100000 * (f + 1) ≤ 100000000000) (hown0 : w.ownsRow base 5 1 tv l.length (J.bv l)) (htab : Lib.TabBelow Tryz.prog base w "internal/strconv.uint64pow10" .u64 Lib.pow10Tab) (hk : (v.getD a M.zero).kind = 5) :
    Calls Tryz.prog 81 #[tv, .slice (some ⟨b, off, none⟩) v.length cap, .int .i64 a] w fun e w' => ∃ v', e = .returned v' ∧ w'.ownsRow base 5 1 v' (l ++ J.encL (f + 1) (part v a)).length (J.bv (l ++ J.encL (f + 1) (part v a))) ∧ Bk base w w' := by
  obtain ⟨i0, hi, hz0, hz1, hz2⟩ := info_parts Tryz.info5
  obtain ⟨va, vn, vc, rfl⟩ := owns_shape hown0
  have h200 := (M.fault_zero hv).2.1
  have haI : (a : Int) < (v.length : Int) := by omega
  have hc := J.code_text (code_at hv a ha)
  obtain ⟨f0, f1, f2, f3, f4⟩ := hrow a ha
  rw [hk] at f0
  obtain ⟨R, hR⟩ : ∃ R, R = J.encL (f + 1) (part v a) := ⟨_, rfl⟩
  have HR := hide (hR.trans (J.encL_part f hv ha))
  rw [← hR]
  clear hR
  rw [hk] at HR
  have hbd := J.parts_bd f hv ha hpl false _ (Nat.le_refl _)
  have HP := hide (fun (wq : World) (Lq : List UInt8) (tq : Value) (hq : Bk base w wq) (hlq : Lq.length + 100000 * f + 99990 ≤ 100000000000) (hoq : wq.ownsRow base 5 1 tq Lq.length (J.bv Lq)) => appendParts_5 f IH v a b off cap base tq Lq wq hv ha hpl (hrow.below hq.1 hb) hb hcap (Nat.le_trans hbase0 hq.size) hlq hoq (htab.on hq.1) hk)
  clear hk
  generalize v.getD a M.zero = c at *
  obtain ⟨w0, hw0⟩ : ∃ w0, w0 = w.alloc (.cells #[.int .i64 5, .int .i64 c.num, .string c.text, .string c.key, .int .i64 c.n] 111) := ⟨_, rfl⟩
  have B0 : Bk base w w0 := by rw [hw0]; exact (Bk.refl _ _).alloc hbase0 _
  have hX0 : Own w0 w.heap.size 111 [.int .i64 5, .int .i64 c.num, .string c.text, .string c.key, .int .i64 c.n] := by rw [hw0]; exact ⟨_, heap_alloc_new _ _, rfl⟩
  have hown := hown0.alloc (.cells #[.int .i64 5, .int .i64 c.num, .string c.text, .string c.key, .int .i64 c.n] 111)
  rw [← hw0] at hown
  have HE := hide (show R = [91] ++ J.partsK (J.encL f) false (keysAt v a) (subs v a) (M.arity v a) ++ [93] by rw [unhide HR]; rfl)
  have hbw : base ≤ w0.heap.size := by have := B0.size; omega
  have hsz0 : w0.heap.size = w.heap.size + 1 := by rw [hw0]; simp
  have hown1 := hide (fun o => hown.alloc o)
  have hone := hide (J.one_word w0 91)
  rw [hsz0] at hone
  have honep := hide (J.one_plain 91)
  have hb63 : l.length + 1 ≤ maxLen := by unfold maxLen; omega
  have hby : (l.length + 1) * 1 ≤ 140737488355328 := by omega
  have hbse := hide (J.owns_base hown)
  have hbsr := hide (fun o => J.owns_row (hown.alloc o))
  have HB0 := hide B0
  have HW0 := hide hw0
  have hbase : base ≤ w.heap.size + 1 + 1 := by omega
  rw [hw0] at hown1 hone hbsr
  clear hown0 HR hpl htab hv hc hrow hX0 hown B0 hw0 hbw hsz0
  go_enter Tryz.func81, Tryz.ntmps81
  go_wp2_with (at_builtin; refine wpList_append_own _ rfl (.tmp 40) (.tmp 41) 37 rfl base 5 i0 (.int .u8 0) 1 1 Tryz.underlying37 hi hz0 hz1 hz2 rfl (by decide) _ l.length _ rfl ((unhide hown1) _) ⟨w.heap.size + 1, 0, none⟩ 1 1 [.int .u8 91] rfl rfl (unhide hone) (unhide honep) hb63 hby (by simpa using hbase) ?_)
  intro vw1 w1 w1h hgw1 _
  have w1b : Bk base w w1 := by
    have hB := unhide HB0
    rw [unhide HW0] at hB
    exact (hB.alloc (by simp; omega) _).grown hgw1 (by simpa using hbase) (unhide hbse) ((unhide hbsr) _)
  obtain ⟨Lw1, ew1⟩ : ∃ L', L' = l ++ [91] := ⟨_, rfl⟩
  have w1o : w1.ownsRow base 5 1 vw1 Lw1.length (J.bv Lw1) := by rw [ew1, List.length_append, ← J.bv_snoc]; exact w1h
  have lw1 : Lw1.length ≤ l.length + 1 := by rw [ew1, List.length_append]; exact Nat.le_refl _
  have hlq := room_in hl lw1
  have Ew1 := hide ew1
  have HLQ := hide hlq
  clear hgw1 w1h ew1 hown1 hone honep hb63 hby hbase hbse hbsr HB0 HW0 hlq
  obtain ⟨xa1, xn1, xc1, rfl⟩ := owns_shape w1o
  go_wp2_with fail
  refine ((unhide HP) _ _ _ w1b (unhide HLQ) w1o).mono ?_
  rintro e w2 ⟨v2, rfl, w2o0, w2k⟩
  have w2b : Bk base w w2 := w1b.trans w2k
  obtain ⟨Lw2, ew2⟩ : ∃ L', L' = Lw1 ++ J.partsK (J.encL f) false (keysAt v a) (subs v a) (M.arity v a) := ⟨_, rfl⟩
  have w2o : w2.ownsRow base 5 1 v2 Lw2.length (J.bv Lw2) := by rw [ew2]; exact w2o0
  have lw2 : Lw2.length ≤ Lw1.length + 80000 := by rw [ew2, List.length_append]; omega
  have Ew2 := hide ew2
  clear ew2 w2o0 w2k w1o w1b
  obtain ⟨xa2, xn2, xc2, rfl⟩ := owns_shape w2o
  have hown1 := hide (fun o => (w2o).alloc o)
  have hone := hide (J.one_word w2 93)
  have honep := hide (J.one_plain 93)
  have hb63 : (Lw2).length + 1 ≤ maxLen := by unfold maxLen; omega
  have hby : ((Lw2).length + 1) * 1 ≤ 140737488355328 := by omega
  have hbase : base ≤ w2.heap.size + 1 := by have := (w2b).size; omega
  have hbse := hide (J.owns_base w2o)
  have hbsr := hide (fun o => J.owns_row ((w2o).alloc o))
  clear w2o
  go_wp2_with (at_builtin; refine wpList_append_own _ rfl (.tmp 45) (.tmp 46) 37 rfl base 5 i0 (.int .u8 0) 1 1 Tryz.underlying37 hi hz0 hz1 hz2 rfl (by decide) _ (Lw2).length _ rfl ((unhide hown1) _) ⟨w2.heap.size, 0, none⟩ 1 1 [.int .u8 93] rfl rfl (unhide hone) (unhide honep) hb63 hby (by simpa using hbase) ?_)
  intro vw3 w3 w3h hgw3 _
  have w3b : Bk base w w3 := ((w2b).alloc (by have := (w2b).size; omega) _).grown hgw3 (by simpa using hbase) (unhide hbse) ((unhide hbsr) _)
  obtain ⟨Lw3, ew3⟩ : ∃ L', L' = Lw2 ++ [93] := ⟨_, rfl⟩
  have w3o : w3.ownsRow base 5 1 vw3 Lw3.length (J.bv Lw3) := by rw [ew3, List.length_append, ← J.bv_snoc]; exact w3h
  have lw3 : Lw3.length ≤ (Lw2).length + 1 := by rw [ew3, List.length_append]; exact Nat.le_refl _
  have Ew3 := hide ew3
  clear hgw3 w3h ew3 hown1 hone honep hb63 hby hbase hbse hbsr
  obtain ⟨xaw3, xnw3, xcw3, rfl⟩ := owns_shape w3o
  have fin := hide (show w3.ownsRow base 5 1 (.slice xaw3 xnw3 xcw3) (l ++ R).length (J.bv (l ++ R)) by
    have e : Lw3 = l ++ R := by
      rw [unhide Ew3, unhide Ew2, unhide Ew1, unhide HE]
      simp only [List.append_assoc]
    rw [← e]; exact w3o)
  clear w3o
  go_wp2_with fail
  go_ret
  refine ⟨_, rfl, ?_, w3b⟩
  first | exact unhide fin | (have h := unhide fin; rw [List.length_append] at h; exact h)

set_option maxRecDepth 100000 in
set_option maxHeartbeats 4000000 in
theorem appendText_6 (f : Nat) (IH : Hid (AppSays f)) (v : List M.Cl) (a b off cap base : Nat) (tv : Value) (l : List UInt8) (w : World) (hv : M.valueFault v = 0) (ha : a < v.length) (hpl : (part v a).length ≤ f + 1) (hrow : Row w b off v) (hb : b < base) (hcap : v.length ≤ cap) (hbase0 : base ≤ w.heap.size) (hl : l.length + 100000 * (f + 1) ≤ 100000000000) (hown0 : w.ownsRow base 5 1 tv l.length (J.bv l)) (htab : Lib.TabBelow Tryz.prog base w "internal/strconv.uint64pow10" .u64 Lib.pow10Tab) (hk : (v.getD a M.zero).kind = 6) :
    Calls Tryz.prog 81 #[tv, .slice (some ⟨b, off, none⟩) v.length cap, .int .i64 a] w fun e w' => ∃ v', e = .returned v' ∧ w'.ownsRow base 5 1 v' (l ++ J.encL (f + 1) (part v a)).length (J.bv (l ++ J.encL (f + 1) (part v a))) ∧ Bk base w w' := by
  obtain ⟨i0, hi, hz0, hz1, hz2⟩ := info_parts Tryz.info5
  obtain ⟨va, vn, vc, rfl⟩ := owns_shape hown0
  have h200 := (M.fault_zero hv).2.1
  have haI : (a : Int) < (v.length : Int) := by omega
  have hc := J.code_text (code_at hv a ha)
  obtain ⟨f0, f1, f2, f3, f4⟩ := hrow a ha
  rw [hk] at f0
  obtain ⟨R, hR⟩ : ∃ R, R = J.encL (f + 1) (part v a) := ⟨_, rfl⟩
  have HR := hide (hR.trans (J.encL_part f hv ha))
  rw [← hR]
  clear hR
  rw [hk] at HR
  have hbd := J.parts_bd f hv ha hpl true _ (Nat.le_refl _)
  have HP := hide (fun (wq : World) (Lq : List UInt8) (tq : Value) (hq : Bk base w wq) (hlq : Lq.length + 100000 * f + 99990 ≤ 100000000000) (hoq : wq.ownsRow base 5 1 tq Lq.length (J.bv Lq)) => appendParts_6 f IH v a b off cap base tq Lq wq hv ha hpl (hrow.below hq.1 hb) hb hcap (Nat.le_trans hbase0 hq.size) hlq hoq (htab.on hq.1) hk)
  clear hk
  generalize v.getD a M.zero = c at *
  obtain ⟨w0, hw0⟩ : ∃ w0, w0 = w.alloc (.cells #[.int .i64 6, .int .i64 c.num, .string c.text, .string c.key, .int .i64 c.n] 111) := ⟨_, rfl⟩
  have B0 : Bk base w w0 := by rw [hw0]; exact (Bk.refl _ _).alloc hbase0 _
  have hX0 : Own w0 w.heap.size 111 [.int .i64 6, .int .i64 c.num, .string c.text, .string c.key, .int .i64 c.n] := by rw [hw0]; exact ⟨_, heap_alloc_new _ _, rfl⟩
  have hown := hown0.alloc (.cells #[.int .i64 6, .int .i64 c.num, .string c.text, .string c.key, .int .i64 c.n] 111)
  rw [← hw0] at hown
  have HE := hide (show R = [123] ++ J.partsK (J.encL f) true (keysAt v a) (subs v a) (M.arity v a) ++ [125] by rw [unhide HR]; rfl)
  have hbw : base ≤ w0.heap.size := by have := B0.size; omega
  have hsz0 : w0.heap.size = w.heap.size + 1 := by rw [hw0]; simp
  have hown1 := hide (fun o => hown.alloc o)
  have hone := hide (J.one_word w0 123)
  rw [hsz0] at hone
  have honep := hide (J.one_plain 123)
  have hb63 : l.length + 1 ≤ maxLen := by unfold maxLen; omega
  have hby : (l.length + 1) * 1 ≤ 140737488355328 := by omega
  have hbse := hide (J.owns_base hown)
  have hbsr := hide (fun o => J.owns_row (hown.alloc o))
  have HB0 := hide B0
  have HW0 := hide hw0
  have hbase : base ≤ w.heap.size + 1 + 1 := by omega
  rw [hw0] at hown1 hone hbsr
  clear hown0 HR hpl htab hv hc hrow hX0 hown B0 hw0 hbw hsz0
  go_enter Tryz.func81, Tryz.ntmps81
  go_wp2_with (at_builtin; refine wpList_append_own _ rfl (.tmp 48) (.tmp 49) 37 rfl base 5 i0 (.int .u8 0) 1 1 Tryz.underlying37 hi hz0 hz1 hz2 rfl (by decide) _ l.length _ rfl ((unhide hown1) _) ⟨w.heap.size + 1, 0, none⟩ 1 1 [.int .u8 123] rfl rfl (unhide hone) (unhide honep) hb63 hby (by simpa using hbase) ?_)
  intro vw1 w1 w1h hgw1 _
  have w1b : Bk base w w1 := by
    have hB := unhide HB0
    rw [unhide HW0] at hB
    exact (hB.alloc (by simp; omega) _).grown hgw1 (by simpa using hbase) (unhide hbse) ((unhide hbsr) _)
  obtain ⟨Lw1, ew1⟩ : ∃ L', L' = l ++ [123] := ⟨_, rfl⟩
  have w1o : w1.ownsRow base 5 1 vw1 Lw1.length (J.bv Lw1) := by rw [ew1, List.length_append, ← J.bv_snoc]; exact w1h
  have lw1 : Lw1.length ≤ l.length + 1 := by rw [ew1, List.length_append]; exact Nat.le_refl _
  have hlq := room_in hl lw1
  have Ew1 := hide ew1
  have HLQ := hide hlq
  clear hgw1 w1h ew1 hown1 hone honep hb63 hby hbase hbse hbsr HB0 HW0 hlq
  obtain ⟨xa1, xn1, xc1, rfl⟩ := owns_shape w1o
  go_wp2_with fail
  refine ((unhide HP) _ _ _ w1b (unhide HLQ) w1o).mono ?_
  rintro e w2 ⟨v2, rfl, w2o0, w2k⟩
  have w2b : Bk base w w2 := w1b.trans w2k
  obtain ⟨Lw2, ew2⟩ : ∃ L', L' = Lw1 ++ J.partsK (J.encL f) true (keysAt v a) (subs v a) (M.arity v a) := ⟨_, rfl⟩
  have w2o : w2.ownsRow base 5 1 v2 Lw2.length (J.bv Lw2) := by rw [ew2]; exact w2o0
  have lw2 : Lw2.length ≤ Lw1.length + 80000 := by rw [ew2, List.length_append]; omega
  have Ew2 := hide ew2
  clear ew2 w2o0 w2k w1o w1b
  obtain ⟨xa2, xn2, xc2, rfl⟩ := owns_shape w2o
  have hown1 := hide (fun o => (w2o).alloc o)
  have hone := hide (J.one_word w2 125)
  have honep := hide (J.one_plain 125)
  have hb63 : (Lw2).length + 1 ≤ maxLen := by unfold maxLen; omega
  have hby : ((Lw2).length + 1) * 1 ≤ 140737488355328 := by omega
  have hbase : base ≤ w2.heap.size + 1 := by have := (w2b).size; omega
  have hbse := hide (J.owns_base w2o)
  have hbsr := hide (fun o => J.owns_row ((w2o).alloc o))
  clear w2o
  go_wp2_with (at_builtin; refine wpList_append_own _ rfl (.tmp 53) (.tmp 54) 37 rfl base 5 i0 (.int .u8 0) 1 1 Tryz.underlying37 hi hz0 hz1 hz2 rfl (by decide) _ (Lw2).length _ rfl ((unhide hown1) _) ⟨w2.heap.size, 0, none⟩ 1 1 [.int .u8 125] rfl rfl (unhide hone) (unhide honep) hb63 hby (by simpa using hbase) ?_)
  intro vw3 w3 w3h hgw3 _
  have w3b : Bk base w w3 := ((w2b).alloc (by have := (w2b).size; omega) _).grown hgw3 (by simpa using hbase) (unhide hbse) ((unhide hbsr) _)
  obtain ⟨Lw3, ew3⟩ : ∃ L', L' = Lw2 ++ [125] := ⟨_, rfl⟩
  have w3o : w3.ownsRow base 5 1 vw3 Lw3.length (J.bv Lw3) := by rw [ew3, List.length_append, ← J.bv_snoc]; exact w3h
  have lw3 : Lw3.length ≤ (Lw2).length + 1 := by rw [ew3, List.length_append]; exact Nat.le_refl _
  have Ew3 := hide ew3
  clear hgw3 w3h ew3 hown1 hone honep hb63 hby hbase hbse hbsr
  obtain ⟨xaw3, xnw3, xcw3, rfl⟩ := owns_shape w3o
  have fin := hide (show w3.ownsRow base 5 1 (.slice xaw3 xnw3 xcw3) (l ++ R).length (J.bv (l ++ R)) by
    have e : Lw3 = l ++ R := by
      rw [unhide Ew3, unhide Ew2, unhide Ew1, unhide HE]
      simp only [List.append_assoc]
    rw [← e]; exact w3o)
  clear w3o
  go_wp2_with fail
  go_ret
  refine ⟨_, rfl, ?_, w3b⟩
  first | exact unhide fin | (have h := unhide fin; rw [List.length_append] at h; exact h)

theorem appendText_any (f : Nat) : AppSays f := by
  induction f with
  | zero =>
    intro v a b off cap base tv l w hv ha hpl
    have := part_len hv ha
    have := (end_gt hv ha).1
    omega
  | succ f ih =>
    intro v a b off cap base tv l w hv ha hpl hrow hb hcap hbase hl hown htab
    have hc := J.code_text (code_at hv a ha)
    by_cases k0 : (v.getD a M.zero).kind = 0
    · exact appendText_0 f v a b off cap base tv l w hv ha hpl hrow hb hcap hbase hl hown htab k0
    by_cases k1 : (v.getD a M.zero).kind = 1
    · exact appendText_1 f v a b off cap base tv l w hv ha hpl hrow hb hcap hbase hl hown htab k1
    by_cases k2 : (v.getD a M.zero).kind = 2
    · exact appendText_2 f v a b off cap base tv l w hv ha hpl hrow hb hcap hbase hl hown htab k2
    by_cases k3 : (v.getD a M.zero).kind = 3
    · exact appendText_3 f v a b off cap base tv l w hv ha hpl hrow hb hcap hbase hl hown htab k3
    by_cases k4 : (v.getD a M.zero).kind = 4
    · exact appendText_4 f v a b off cap base tv l w hv ha hpl hrow hb hcap hbase hl hown htab k4
    by_cases k5 : (v.getD a M.zero).kind = 5
    · exact appendText_5 f (hide ih) v a b off cap base tv l w hv ha hpl hrow hb hcap hbase hl hown htab k5
    by_cases k6 : (v.getD a M.zero).kind = 6
    · exact appendText_6 f (hide ih) v a b off cap base tv l w hv ha hpl hrow hb hcap hbase hl hown htab k6
    omega

end Go.Proofs.YtcglddahphkcpaaGreatDoor
