/-
  impl.EncodeString and spec.EncodeString answer encS.
  spec.EncodeValue and impl.EncodeValue answer encV.
-/
import Derived.Test.YtlbmpldknfcfhaaDoorU10
import Derived.Test.YtlbmpldknfcfhaaDoorU38
import Derived.Test.YtlbmpldknfcfhaaDoorU43
import Derived.Test.YtlbmpldknfcfhaaDoorU45
namespace Go.Proofs.YtlbmpldknfcfhaaDoor
open Go.RowKit
set_option linter.unusedVariables false

set_option maxHeartbeats 1000000 in
theorem eqTextResult_same (x : Int) (y : ByteArray) (w : World) :
    Calls Tryd.prog 10 #[.agg #[.int .i64 x, .string y], .agg #[.int .i64 x, .string y]] w fun e w' => e = .returned (.bool true) ∧ Below w.heap.size w w' := by
  go_enter Tryd.func10, Tryd.ntmps10
  go_wp2
  go_ret
  exact ⟨rfl, by repeat (first | exact Below.refl _ _ | refine Below.setCell ?_ (Nat.le_refl _) _ | refine Below.alloc ?_ (by simp <;> omega) _)⟩

end Go.Proofs.YtlbmpldknfcfhaaDoor

namespace Go.Proofs.YtlbmpldknfcfhaaDoor
open Go.RowKit
set_option linter.unusedVariables false
set_option linter.unusedSimpArgs false

theorem l2Encode_all (f : Nat) : EncSays f := by
  induction f with
  | zero =>
    intro A b off cap w hA hAf
    have := (M.fault_zero hA).1
    omega
  | succ f ih =>
    intro A b off cap w hA hAf hr hb hcap hok
    have hl := (M.fault_zero hA).1
    have h200 := (M.fault_zero hA).2.1
    have hc := J.code_text (code_at hA 0 (by omega))
    by_cases k0 : (A.getD 0 M.zero).kind = 0
    · exact l2Encode_0 f A b off cap w hl h200 hr hcap k0
    by_cases k1 : (A.getD 0 M.zero).kind = 1
    · exact l2Encode_1 f A b off cap w hl h200 hr hcap k1
    by_cases k2 : (A.getD 0 M.zero).kind = 2
    · exact l2Encode_2 f A b off cap w hl h200 hr hcap k2
    by_cases k3 : (A.getD 0 M.zero).kind = 3
    · exact l2Encode_3 f A b off cap w hA hl h200 hr hcap k3
    by_cases k4 : (A.getD 0 M.zero).kind = 4
    · exact l2Encode_4 f A b off cap w hA hl h200 hr hcap k4
    by_cases k5 : (A.getD 0 M.zero).kind = 5
    · exact l2Encode_5 f (hide ih) A b off cap w hA hAf hr hb hcap hok k5
    by_cases k6 : (A.getD 0 M.zero).kind = 6
    · exact l2Encode_6 f (hide ih) A b off cap w hA hAf hr hb hcap hok k6
    omega
theorem itoa_ne (n : Int) : Lib.itoa n ≠ [] := by
  unfold Lib.itoa
  split
  · simp
  · intro h
    have h2 := Lib.decDigits_length n.toNat
    rw [h] at h2
    unfold Lib.nDigits at h2
    split at h2 <;> simp at h2
theorem encL_ne (f : Nat) (v : List M.Cl) : J.encL (f + 1) v ≠ [] := by
  rw [J.encL]
  repeat' split
  all_goals (first | exact itoa_ne _ | (unfold J.quote; simp; done) | (intro h; simp at h; done) | simp)
def encV (v : List M.Cl) : Int × ByteArray := if M.valueFault v = 0 then (0, J.bytes (J.encL 200 v)) else (M.valueFault v, ByteArray.empty)
theorem encV_ok {v : List M.Cl} (h : M.valueFault v = 0) : encV v = (0, J.bytes (J.encL 200 v)) := by unfold encV; rw [if_pos h]
theorem encV_no {v : List M.Cl} (h : M.valueFault v ≠ 0) : encV v = (M.valueFault v, ByteArray.empty) := by unfold encV; rw [if_neg h]

set_option maxRecDepth 100000 in
set_option maxHeartbeats 1000000 in
theorem implEncode_any (v : List M.Cl) (b off cap : Nat) (w : World) (hrow : Row w b off v) (hb : b < w.heap.size) (hn : v.length ≤ 1048576) (hcap : v.length ≤ cap) (hok : ∀ c ∈ v, c.ok) (htab : Lib.TabBelow Tryd.prog w.heap.size w "internal/strconv.uint64pow10" .u64 Lib.pow10Tab) :
    Calls Tryd.prog 50 #[.slice (some ⟨b, off, none⟩) v.length cap] w fun e w' => e = .returned (.agg #[.int .i64 (encV v).1, .string (encV v).2]) ∧ Below w.heap.size w w' := by
  have OK := hide hok
  clear hok
  have HR := hide hrow
  have HT := hide htab
  clear hrow htab
  obtain ⟨w0, hw0⟩ : ∃ w0, w0 = w.alloc (.cells #[.int .i64 0, .string ByteArray.empty] 25) := ⟨_, rfl⟩
  have B0 : Below w.heap.size w w0 := by rw [hw0]; exact (Below.refl _ _).alloc (Nat.le_refl _) _
  have hX0 : Own w0 w.heap.size 25 [.int .i64 0, .string ByteArray.empty] := by rw [hw0]; exact ⟨_, heap_alloc_new _ _, rfl⟩
  go_enter Tryd.func50, Tryd.ntmps50
  go_wp2_with fail
  try (rw [show (w.alloc (.cells #[.int .i64 0, .string { data := #[] }] 25)) = w0 from hw0.symm])
  refine (implFault_any v b off cap _ ((unhide HR).below B0 hb) (Nat.lt_of_lt_of_le hb B0.size) hn hcap (unhide OK)).mono ?_
  rintro e1 w1 ⟨rfl, hb1⟩
  have B1 : Below w.heap.size w w1 := B0.trans (hb1.mono B0.size)
  have hX1 := hX0.below hb1 hX0.lt
  clear hb1 B0 hX0 hw0
  have r0 := hX1.cell 0
  have r1 := hX1.cell 1
  have z0 := hX1.frozen 0
  have z1 := hX1.frozen 1
  simp only [List.getElem?_cons_zero, List.getElem?_cons_succ] at r0 r1
  by_cases hz : M.valueFault v = 0
  · have hl1 := (M.fault_zero hz).1
    have hpl : (part v 0).length ≤ 200 := by have := part_len hz (show 0 < v.length by omega); have := (end_gt hz (show 0 < v.length by omega)).2; have := (M.fault_zero hz).2.1; omega
    have hwhole : J.encL 200 (part v 0) = J.encL 200 v := J.encL_whole 199 hz (by omega)
    have fin := hide (encV_ok hz)
    have HE := hide (fun wq (hq : Below w.heap.size w wq) => appendText_any 200 v 0 b off cap wq.heap.size (.slice none 0 0) [] wq hz (by omega) hpl ((unhide HR).below hq hb) (Nat.lt_of_lt_of_le hb hq.size) hcap (Nat.le_refl _) (by simp) (World.ownsRow_nil _ _ _ _) (fun w' hb' => (unhide HT) w' (hq.trans (hb'.mono hq.size))))
    have hne := hide (encL_ne 199 v)
    rw [hwhole] at HE
    rw [hz]
    clear hz hpl hwhole hl1
    go_wp2_with fail
    refine ((unhide HE) _ B1).mono ?_
    rintro e w2 ⟨vq, rfl, ho2, hk2⟩
    rw [List.nil_append] at ho2
    have hb2 := hk2.1
    have B2 : Below w.heap.size w w2 := B1.trans (hb2.mono B1.size)
    have hX2 := hX1.below hb2 hX1.lt
    clear r0 r1 z0 z1 hb2 B1 hX1 hk2 HE
    have r0 := hX2.cell 0
    have r1 := hX2.cell 1
    have z0 := hX2.frozen 0
    have z1 := hX2.frozen 1
    simp only [List.getElem?_cons_zero, List.getElem?_cons_succ] at r0 r1
    rcases ho2.2 with ⟨_, h0⟩ | ⟨g, cap, cur, rfl, hgb, _⟩
    · exact absurd (List.length_eq_zero_iff.1 h0) (unhide hne)
    have hcv := show (convert 46 9 (.slice (some ⟨g, 0, none⟩) (J.encL 200 v).length cap)).run Tryd.prog w2 = .ok (.string (J.bytes (J.encL 200 v))) w2 from
      run_convert_bytes_back _ _ _ 5 _ cap _ Tryd.underlying46 Tryd.underlying5 Tryd.underlying9 (J.owns_cells ho2)
    clear ho2 hX2
    generalize (J.encL 200 v).length = n at *
    generalize J.bytes (J.encL 200 v) = q at *
    go_wp2_with fail
    refine bodyPost_ret (v := .agg #[.int .i64 0, .string q]) (by simp [results, Tryd.results50, go_sem, r0, r1]) rfl ⟨by rw [unhide fin], ?_⟩
    exact (B2.setCell (Nat.le_refl _) _).setCell (Nat.le_refl _) _
  · have fin := hide (encV_no hz)
    have hz' : (M.valueFault v == 0) = false := by simp [hz]
    clear hz
    generalize M.valueFault v = q at *
    go_wp2_with fail
    refine bodyPost_ret (v := .agg #[.int .i64 q, .string ByteArray.empty]) (by simp [results, Tryd.results50, go_sem, r0, r1]; try rfl) rfl ⟨by rw [unhide fin], ?_⟩
    exact (B1.setCell (Nat.le_refl _) _).setCell (Nat.le_refl _) _

end Go.Proofs.YtlbmpldknfcfhaaDoor
