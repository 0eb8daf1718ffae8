/-
  impl.partOf: the value at a place by itself.
  impl.partsOf and impl.keysIn: the parts of a value, each in memory of its own, and their keys.
-/
import Derived.Test.YtlmibdddfjbbdaaM14
import Derived.Test.YtlmibdddfjbbdaaM17
namespace Go.Proofs.Ytlmibdddfjbbdaa
open Go.RowKit
set_option linter.unusedVariables false

set_option maxHeartbeats 1000000 in
theorem partOf_any (v : List M.Cl) (b off cap a : Nat) (w : World) (hv : M.valueFault v = 0) (ha : a < v.length) (hrow : Row w b off v) (hb : b < w.heap.size) (hcap : v.length ≤ cap) :
    Calls Try.prog 62 #[.slice (some ⟨b, off, none⟩) v.length cap, .int .i64 a] w fun e w' => ∃ s, e = .returned s ∧ Res w' w.heap.size s (part v a) ∧ Below w.heap.size w w' := by
  have hl := (M.fault_zero hv).2.1
  obtain ⟨d, _, h2, h3, h4⟩ := M.endOf_spec hv a (by omega)
  have HV := hide hv
  clear hv
  go_enter Try.func62, Try.ntmps62
  go_wp2_with fail
  refine (endOf_any v b off cap a _ (unhide HV) (by omega) hrow hb hcap).mono ?_
  rintro e2 w2 ⟨rfl, hw2⟩
  subst hw2
  have HP := hide (show part v a = setKey (cut v a (M.endOf v a)) ByteArray.empty from rfl)
  generalize hz : M.endOf v a = z at *
  have hcl := cut_length v a z h3
  have hne : cut v a z ≠ [] := by intro h; rw [h] at hcl; simp at hcl; omega
  have HCL := hide hcl
  clear hcl
  have HAP := hide (appendPart_any w2.heap.size (.slice none 0 0) [] (cut v a z) b (off + a * 5) (cap - a) ByteArray.empty w2 (World.ownsRow_nil _ _ _ _) (hrow.cut a z h3) hne (by rw [unhide HCL]; simp; omega) (Nat.le_refl _))
  rw [unhide HCL] at HAP
  clear hz
  go_wp2_with fail
  refine (unhide HAP).mono ?_
  rintro e3 w3 ⟨s, rfl, ho3, hb2⟩
  simp only [List.nil_append] at ho3
  have hr2 := res_of_owns ho3 (by rw [setKey_length, unhide HCL]; omega)
  rw [← unhide HP] at hr2
  clear ho3 HAP
  have HR2 := hide hr2
  clear hr2
  go_wp2_with fail
  go_ret
  exact ⟨_, rfl, unhide HR2, hb2⟩

end Go.Proofs.Ytlmibdddfjbbdaa

namespace Go.Proofs.Ytlmibdddfjbbdaa
open Go.RowKit
set_option linter.unusedVariables false

set_option maxRecDepth 100000 in
set_option maxHeartbeats 2000000 in
theorem keysIn_any (v : List M.Cl) (b off cap : Nat) (w : World) (hv : M.valueFault v = 0) (hrow : Row w b off v) (hb : b < w.heap.size) (hcap : v.length ≤ cap) :
    Calls Try.prog 46 #[.slice (some ⟨b, off, none⟩) v.length cap] w fun e w' => ∃ s, e = .returned s ∧ KS w' w.heap.size s (keysAt v 0) ∧ Below w.heap.size w w' := by
  have hl1 := (M.fault_zero hv).1
  have hl2 := (M.fault_zero hv).2.1
  have hin := M.places_in hv 0 (by omega)
  have HIN := hide hin.1
  have hend := hide hin.2.2.1
  have hA := hin.2.2.2
  have HC := hide (fun w' (r : Row w' b off v) hb' => childPlaces_any v b off cap 0 w' hv (by omega) r hb' hcap)
  have hall := hide (firstK_all v)
  clear hin
  generalize hm : M.arity v 0 = m at *
  clear hm
  have HV := hide hv
  clear hv
  obtain ⟨i0, hi, hz0, hz1, hz2⟩ := info_parts Try.info9
  go_enter Try.func46, Try.ntmps46
  go_wp2_with fail
  refine ((unhide HC) _ hrow hb).mono ?_
  rintro e w1 ⟨sa, rfl, hra, hb1⟩
  have hO : w1.ownsRow w.heap.size 9 1 (.slice none 0 0) 0 [] := World.ownsRow_nil _ _ _ _
  have B1 : Below w.heap.size w w1 := hb1
  clear hb1
  obtain ⟨_, ⟨rfl, hnil⟩ | ⟨ba, ca, rfl, _, hca, hoa⟩⟩ := hra
  · have hm0 : m = 0 := by have := congrArg List.length hnil; rwa [firstPl_length] at this
    subst hm0
    have fin := hide (unhide hall)
    go_wp2_with fail
    refine wp_loop_rounds 1 ?_
    rw [rounds_succ]
    go_wp2_with fail
    go_ret
    exact ⟨_, rfl, by rw [← unhide fin]; exact hO, B1⟩
  · rw [firstPl_length] at hca ⊢
    go_wp2_with fail
    go_loopg [3, 9] m (fun g s3 s9 wr => ∃ k : Nat, Hid (g = m - k) ∧ s9 = .int .i64 k ∧ k ≤ m ∧ wr.ownsRow w.heap.size 9 1 s3 k ((firstK v k).map Value.string) ∧ OwnI wr ba (firstPl v 0 m) ∧ Below w.heap.size w wr)
    case atStart => exact ⟨0, rfl, rfl, by omega, hO, hoa, B1⟩
    case round =>
      clear hO hoa B1
      obtain ⟨k, hg, rfl, hk, hown, hoi, hbel⟩ := hrel
      by_cases hlt : k < m
      · have h1 := (unhide HIN) k hlt
        have h2 := unhide hend
        have fa := hoi.cell (i := k) (by rw [firstPl_length]; exact hlt)
        rw [firstPl_getD v 0 m k hlt] at fa
        have fk := ((hrow.below hbel hb) (M.iter v k (0 + 1)) (by omega)).2.2.2.1
        have hsucc := hide (firstK_succ v k)
        simp only [Nat.zero_add] at fa fk h1
        have hp : M.iter v k 1 < v.length := by omega
        clear h1 h2
        generalize (v.getD (M.iter v k 1) M.zero).key = ky at *
        generalize M.iter v k 1 = p at *
        have hown1 := hide (fun o => hown.alloc o)
        have hbse := hide (ownsRow_base hown)
        have hone := hide (one_val wr (.string ky) 9)
        have honep := hide (show ∀ u ∈ ([Value.string ky] : List Value), u.oneCell' = true by intro u hu; simp only [List.mem_cons, List.not_mem_nil, or_false] at hu; subst hu; rfl)
        have hb63 : k + 1 ≤ maxLen := by unfold maxLen; omega
        have hby : (k + 1) * 16 ≤ 140737488355328 := by omega
        have hbase : w.heap.size ≤ wr.heap.size + 1 := by have := hbel.size; omega
        have hnb := hide (other_block hown hoi.choose_spec.1 (by decide))
        have HOI := hide hoi
        clear hown hoi
        go_wp2_with (at_builtin; refine wpList_append_own _ rfl (.tmp 13) (.tmp 19) 48 rfl w.heap.size 9 i0 (.string ByteArray.empty) 1 16 Try.underlying48 hi hz0 hz1 hz2 rfl (by decide) _ k _ rfl ((unhide hown1) _) ⟨wr.heap.size, 0, none⟩ 1 1 [.string ky] rfl rfl (unhide hone) (unhide honep) hb63 hby (by simpa using hbase) ?_)
        intro v' w2 ho2 hg2 _
        rw [unhide hsucc] at ho2
        have B2 : Below w.heap.size w w2 := (hbel.alloc hbel.size _).grown hg2 (by simpa using hbase) (unhide hbse)
        have hoi2 : OwnI w2 ba (firstPl v 0 m) := by
          obtain ⟨ys, y1, y2⟩ := unhide HOI
          exact ⟨ys, grown_own hg2 (y1.alloc _) (unhide hnb), y2⟩
        have HO2 := hide ho2
        clear ho2 hg2 fa fk
        go_wp2_with fail
        go_roundg (m - (k + 1))
        case rel => exact ⟨k + 1, rfl, by go_num, by omega, unhide HO2, hoi2, B2⟩
        case measure => have := hg.out; omega
      · have hke : k = m := by omega
        subst hke
        have fin := hide (unhide hall)
        have hlen : (keysAt v 0).length = k := by rw [← unhide fin]; simp [firstK]
        have hks : KS wr w.heap.size u3 (keysAt v 0) := by unfold KS; rw [hlen, ← unhide fin]; exact hown
        have HKS := hide hks
        have hsh : ∃ aa nn cc, u3 = Value.slice aa nn cc := by
          rcases hown.2 with ⟨h, _⟩ | ⟨_, _, _, h, _⟩
          · exact ⟨_, _, _, h⟩
          · exact ⟨_, _, _, h⟩
        obtain ⟨aa, nn, cc, hsh⟩ := hsh
        subst hsh
        clear hown hks hlen hoi
        go_wp2_with fail
        go_ret
        exact ⟨_, rfl, unhide HKS, hbel⟩

end Go.Proofs.Ytlmibdddfjbbdaa
