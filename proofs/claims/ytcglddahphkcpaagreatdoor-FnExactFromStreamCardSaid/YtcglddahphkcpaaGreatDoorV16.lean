/-
  impl.partOf: the value at a place by itself.
  impl.partsOf and impl.keysIn: the parts of a value, each in memory of its own, and their keys.
-/
import Derived.Test.YtcglddahphkcpaaGreatDoorV08
import Derived.Test.YtcglddahphkcpaaGreatDoorV11
namespace Go.Proofs.YtcglddahphkcpaaGreatDoor
open Go.RowKit
set_option linter.unusedVariables false

set_option maxHeartbeats 1000000 in
theorem partOf_any (v : List M.Cl) (b off cap a : Nat) (w : World) (hv : M.valueFault v = 0) (ha : a < v.length) (hrow : Row w b off v) (hb : b < w.heap.size) (hcap : v.length ≤ cap) :
    Calls Tryz.prog 102 #[.slice (some ⟨b, off, none⟩) v.length cap, .int .i64 a] w fun e w' => ∃ s, e = .returned s ∧ Res w' w.heap.size s (part v a) ∧ Below w.heap.size w w' := by
  have hl := (M.fault_zero hv).2.1
  obtain ⟨d, _, h2, h3, h4⟩ := M.endOf_spec hv a (by omega)
  have HV := hide hv
  clear hv
  go_enter Tryz.func102, Tryz.ntmps102
  go_wp2_with fail
  refine (endOf_any v b off cap a _ (unhide HV) (by omega) hrow hb hcap).mono ?_
  rintro e2 w2 ⟨rfl, hw2⟩
  subst hw2
  have HP := hide (show part v a = setKey (cut v a (M.endOf v a)) ByteArray.empty from rfl)
  generalize hz : M.endOf v a = z at *
  have hcl := cut_length v a z h3
  have hne : cut v a z ≠ [] := by intro h; rw [h] at hcl; simp at hcl; omega
  have HCL := hide hcl
  clear hcl
  have HAP := hide (appendPart_any w2.heap.size (.slice none 0 0) [] (cut v a z) b (off + a * 5) (cap - a) ByteArray.empty w2 (World.ownsRow_nil _ _ _ _) (hrow.cut a z h3) hne (by rw [unhide HCL]; simp; omega) (Nat.le_refl _))
  rw [unhide HCL] at HAP
  clear hz
  go_wp2_with fail
  refine (unhide HAP).mono ?_
  rintro e3 w3 ⟨s, rfl, ho3, hb2⟩
  simp only [List.nil_append] at ho3
  have hr2 := res_of_owns ho3 (by rw [setKey_length, unhide HCL]; omega)
  rw [← unhide HP] at hr2
  clear ho3 HAP
  have HR2 := hide hr2
  clear hr2
  go_wp2_with fail
  go_ret
  exact ⟨_, rfl, unhide HR2, hb2⟩

end Go.Proofs.YtcglddahphkcpaaGreatDoor

namespace Go.Proofs.YtcglddahphkcpaaGreatDoor
open Go.RowKit
set_option linter.unusedVariables false

/-- A row of slices, as SS says, no two of which share memory. -/
def SD (w : World) (B : Nat) (v : Value) (ps : List (List M.Cl)) : Prop :=
  ∃ ss : List Value, ss.length = ps.length ∧ w.ownsRow B 24 1 v ps.length ss ∧ (∀ i, i < ps.length → Res w B (ss.getD i (.slice none 0 0)) (ps.getD i [])) ∧ ∀ i j, i < j → j < ps.length → ∀ b, (ss.getD i (.slice none 0 0)).ownBlock = some b → (ss.getD j (.slice none 0 0)).ownBlock ≠ some b
theorem SD.ss {w : World} {B : Nat} {v : Value} {ps : List (List M.Cl)} (h : SD w B v ps) : SS w B v ps := by
  obtain ⟨ss, h1, h2, h3, _⟩ := h; exact ⟨ss, h1, h2, h3⟩
set_option maxRecDepth 100000 in
set_option maxHeartbeats 2000000 in
theorem keysIn_any (v : List M.Cl) (b off cap : Nat) (w : World) (hv : M.valueFault v = 0) (hrow : Row w b off v) (hb : b < w.heap.size) (hcap : v.length ≤ cap) :
    Calls Tryz.prog 204 #[.slice (some ⟨b, off, none⟩) v.length cap] w fun e w' => ∃ s, e = .returned s ∧ KS w' w.heap.size s (keysAt v 0) ∧ Below w.heap.size w w' := by
  have hl1 := (M.fault_zero hv).1
  have hl2 := (M.fault_zero hv).2.1
  have hin := M.places_in hv 0 (by omega)
  have HIN := hide hin.1
  have hend := hide hin.2.2.1
  have hA := hin.2.2.2
  have HC := hide (fun w' (r : Row w' b off v) hb' => childPlaces_any v b off cap 0 w' hv (by omega) r hb' hcap)
  have hall := hide (firstK_all v)
  clear hin
  generalize hm : M.arity v 0 = m at *
  clear hm
  have HV := hide hv
  clear hv
  obtain ⟨i0, hi, hz0, hz1, hz2⟩ := info_parts Tryz.info9
  go_enter Tryz.func204, Tryz.ntmps204
  go_wp2_with fail
  refine ((unhide HC) _ hrow hb).mono ?_
  rintro e w1 ⟨sa, rfl, hra, hb1⟩
  have hO : w1.ownsRow w.heap.size 9 1 (.slice none 0 0) 0 [] := World.ownsRow_nil _ _ _ _
  have B1 : Below w.heap.size w w1 := hb1
  clear hb1
  obtain ⟨_, ⟨rfl, hnil⟩ | ⟨ba, ca, rfl, _, hca, hoa⟩⟩ := hra
  · have hm0 : m = 0 := by have := congrArg List.length hnil; rwa [firstPl_length] at this
    subst hm0
    have fin := hide (unhide hall)
    go_wp2_with fail
    refine wp_loop_rounds 1 ?_
    rw [rounds_succ]
    go_wp2_with fail
    go_ret
    exact ⟨_, rfl, by rw [← unhide fin]; exact hO, B1⟩
  · rw [firstPl_length] at hca ⊢
    go_wp2_with fail
    go_loopg [3, 9] m (fun g s3 s9 wr => ∃ k : Nat, Hid (g = m - k) ∧ s9 = .int .i64 k ∧ k ≤ m ∧ wr.ownsRow w.heap.size 9 1 s3 k ((firstK v k).map Value.string) ∧ OwnI wr ba (firstPl v 0 m) ∧ Below w.heap.size w wr)
    case atStart => exact ⟨0, rfl, rfl, by omega, hO, hoa, B1⟩
    case round =>
      clear hO hoa B1
      obtain ⟨k, hg, rfl, hk, hown, hoi, hbel⟩ := hrel
      by_cases hlt : k < m
      · have h1 := (unhide HIN) k hlt
        have h2 := unhide hend
        have fa := hoi.cell (i := k) (by rw [firstPl_length]; exact hlt)
        rw [firstPl_getD v 0 m k hlt] at fa
        have fk := ((hrow.below hbel hb) (M.iter v k (0 + 1)) (by omega)).2.2.2.1
        have hsucc := hide (firstK_succ v k)
        simp only [Nat.zero_add] at fa fk h1
        have hp : M.iter v k 1 < v.length := by omega
        clear h1 h2
        generalize (v.getD (M.iter v k 1) M.zero).key = ky at *
        generalize M.iter v k 1 = p at *
        have hown1 := hide (fun o => hown.alloc o)
        have hbse := hide (ownsRow_base hown)
        have hone := hide (one_val wr (.string ky) 9)
        have honep := hide (show ∀ u ∈ ([Value.string ky] : List Value), u.oneCell' = true by intro u hu; simp only [List.mem_cons, List.not_mem_nil, or_false] at hu; subst hu; rfl)
        have hb63 : k + 1 ≤ maxLen := by unfold maxLen; omega
        have hby : (k + 1) * 16 ≤ 140737488355328 := by omega
        have hbase : w.heap.size ≤ wr.heap.size + 1 := by have := hbel.size; omega
        have hnb := hide (other_block hown hoi.choose_spec.1 (by decide))
        have HOI := hide hoi
        clear hown hoi
        go_wp2_with (at_builtin; refine wpList_append_own _ rfl (.tmp 13) (.tmp 19) 69 rfl w.heap.size 9 i0 (.string ByteArray.empty) 1 16 Tryz.underlying69 hi hz0 hz1 hz2 rfl (by decide) _ k _ rfl ((unhide hown1) _) ⟨wr.heap.size, 0, none⟩ 1 1 [.string ky] rfl rfl (unhide hone) (unhide honep) hb63 hby (by simpa using hbase) ?_)
        intro v' w2 ho2 hg2 _
        rw [unhide hsucc] at ho2
        have B2 : Below w.heap.size w w2 := (hbel.alloc hbel.size _).grown hg2 (by simpa using hbase) (unhide hbse)
        have hoi2 : OwnI w2 ba (firstPl v 0 m) := by
          obtain ⟨ys, y1, y2⟩ := unhide HOI
          exact ⟨ys, grown_own hg2 (y1.alloc _) (unhide hnb), y2⟩
        have HO2 := hide ho2
        clear ho2 hg2 fa fk
        go_wp2_with fail
        go_roundg (m - (k + 1))
        case rel => exact ⟨k + 1, rfl, by go_num, by omega, unhide HO2, hoi2, B2⟩
        case measure => have := hg.out; omega
      · have hke : k = m := by omega
        subst hke
        have fin := hide (unhide hall)
        have hlen : (keysAt v 0).length = k := by rw [← unhide fin]; simp [firstK]
        have hks : KS wr w.heap.size u3 (keysAt v 0) := by unfold KS; rw [hlen, ← unhide fin]; exact hown
        have HKS := hide hks
        have hsh : ∃ aa nn cc, u3 = Value.slice aa nn cc := by
          rcases hown.2 with ⟨h, _⟩ | ⟨_, _, _, h, _⟩
          · exact ⟨_, _, _, h⟩
          · exact ⟨_, _, _, h⟩
        obtain ⟨aa, nn, cc, hsh⟩ := hsh
        subst hsh
        clear hown hks hlen hoi
        go_wp2_with fail
        go_ret
        exact ⟨_, rfl, unhide HKS, hbel⟩

set_option maxRecDepth 100000 in
set_option maxHeartbeats 2000000 in
theorem partsOf_any (v : List M.Cl) (b off cap : Nat) (w : World) (hv : M.valueFault v = 0) (hrow : Row w b off v) (hb : b < w.heap.size) (hcap : v.length ≤ cap) :
    Calls Tryz.prog 78 #[.slice (some ⟨b, off, none⟩) v.length cap] w fun e w' => ∃ s, e = .returned s ∧ SD w' w.heap.size s (subs v 0) ∧ Below w.heap.size w w' := by
  have hl1 := (M.fault_zero hv).1
  have hl2 := (M.fault_zero hv).2.1
  have hin := M.places_in hv 0 (by omega)
  have HIN := hide hin.1
  have hend := hide hin.2.2.1
  have hA := hin.2.2.2
  have HC := hide (fun w' (r : Row w' b off v) hb' => childPlaces_any v b off cap 0 w' hv (by omega) r hb' hcap)
  have HPT := hide (fun a (ha : a < v.length) w' (r : Row w' b off v) hb' => partOf_any v b off cap a w' hv ha r hb' hcap)
  have hall := hide (firstS_all v)
  clear hin
  generalize hm : M.arity v 0 = m at *
  clear hm
  have HV := hide hv
  clear hv
  obtain ⟨i0, hi, hz0, hz1, hz2⟩ := info_parts Tryz.info24
  go_enter Tryz.func78, Tryz.ntmps78
  go_wp2_with fail
  refine ((unhide HC) _ hrow hb).mono ?_
  rintro e w1 ⟨sa, rfl, hra, hb1⟩
  have hO : w1.ownsRow w.heap.size 24 1 (.slice none 0 0) 0 [] := World.ownsRow_nil _ _ _ _
  have B1 : Below w.heap.size w w1 := hb1
  clear hb1
  obtain ⟨_, ⟨rfl, hnil⟩ | ⟨ba, ca, rfl, _, hca, hoa⟩⟩ := hra
  · have hm0 : m = 0 := by have := congrArg List.length hnil; rwa [firstPl_length] at this
    subst hm0
    have fin := hide (unhide hall)
    go_wp2_with fail
    refine wp_loop_rounds 1 ?_
    rw [rounds_succ]
    go_wp2_with fail
    go_ret
    exact ⟨_, rfl, by rw [← unhide fin]; exact ⟨[], rfl, hO, fun i hi => by simp [firstS] at hi, fun i j h1 h2 => by simp [firstS] at h2⟩, B1⟩
  · rw [firstPl_length] at hca ⊢
    go_wp2_with fail
    go_loopg [3, 9] m (fun g s3 s9 wr => ∃ (k : Nat) (ss : List Value), Hid (g = m - k) ∧ s9 = .int .i64 k ∧ k ≤ m ∧ wr.ownsRow w.heap.size 24 1 s3 k ss ∧ Hid (ss.length = k) ∧ Hid (∀ j, j < k → Res wr w.heap.size (ss.getD j (.slice none 0 0)) (part v (M.iter v j 1))) ∧ Hid (∀ i j, i < j → j < k → ∀ b, (ss.getD i (.slice none 0 0)).ownBlock = some b → (ss.getD j (.slice none 0 0)).ownBlock ≠ some b) ∧ OwnI wr ba (firstPl v 0 m) ∧ Below w.heap.size w wr)
    case atStart => exact ⟨0, [], rfl, rfl, by omega, hO, rfl, fun j hj => absurd hj (by omega), fun i j h1 h2 => absurd h2 (by omega), hoa, B1⟩
    case round =>
      clear hO hoa B1
      obtain ⟨k, ss, hg, rfl, hk, hown, hsl, hres, hdis, hoi, hbel⟩ := hrel
      by_cases hlt : k < m
      · have h1 := (unhide HIN) k hlt
        have h2 := unhide hend
        have fa := hoi.cell (i := k) (by rw [firstPl_length]; exact hlt)
        rw [firstPl_getD v 0 m k hlt] at fa
        simp only [Nat.zero_add] at fa h1
        have hp : M.iter v k 1 < v.length := by omega
        clear h1 h2
        obtain ⟨p, hpp⟩ : ∃ p, p = M.iter v k 1 := ⟨_, rfl⟩
        rw [← hpp] at fa hp
        have HPP := hide hpp
        clear hpp
        have hbr : b < wr.heap.size := Nat.lt_of_lt_of_le hb hbel.size
        go_wp2_with fail
        refine ((unhide HPT) p hp _ (hrow.below hbel hb) hbr).mono ?_
        rintro e w2 ⟨sp, rfl, hrp, hb2⟩
        have B2 : Below w.heap.size w w2 := hbel.trans (hb2.mono hbel.size)
        have hown2 := ownsRow_below (B := 0) hown hb2
        have hoi2 := hoi.below hb2 hoi.lt
        have hres2 := hide (fun j (hj : j < k) => (hres.out j hj).below hb2)
        have hrp2 : Res w2 w.heap.size sp (part v p) := hrp.mono hbel.size
        have hnew := hide (show ∀ j, j < k → ∀ b, (ss.getD j (.slice none 0 0)).ownBlock = some b → sp.ownBlock ≠ some b from fun j hj b h1 h2 => by have := (hres.out j hj).lt b h1; have := hrp.base b h2; omega)
        clear hown hoi hres hb2 hbel hrp fa
        obtain ⟨pa, pn, pc, hsp⟩ := hrp2.shape
        have HRP := hide hrp2
        clear hrp2
        have hnb := hide (other_block hown2 hoi2.choose_spec.1 (by decide))
        have hkeep := hide (fun (w' : World) o (hg' : (w2.alloc o).grownBy w' _) (s : Value) (l : List M.Cl) (h : Res w2 w.heap.size s l) => grown_res (hown2.alloc o) hg' (h.alloc o) (by decide))
        have hown3 := hide (fun o => hown2.alloc o)
        have hbse := hide (ownsRow_base hown2)
        have hone := hide (one_val w2 sp 24)
        have honep := hide (show ∀ u ∈ ([sp] : List Value), u.oneCell' = true by intro u hu; simp only [List.mem_cons, List.not_mem_nil, or_false] at hu; subst hu; rw [hsp]; rfl)
        have hb63 : k + 1 ≤ maxLen := by unfold maxLen; omega
        have hby : (k + 1) * 24 ≤ 140737488355328 := by omega
        have hbase : w.heap.size ≤ w2.heap.size + 1 := by have := B2.size; omega
        have HOI := hide hoi2
        clear hown2 hoi2
        subst hsp
        go_wp2_with (at_builtin; refine wpList_append_own _ rfl (.tmp 13) (.tmp 17) 28 rfl w.heap.size 24 i0 (.slice none 0 0) 1 24 Tryz.underlying28 hi hz0 hz1 hz2 rfl (by decide) _ k ss rfl ((unhide hown3) _) ⟨w2.heap.size, 0, none⟩ 1 1 [.slice pa pn pc] rfl rfl (unhide hone) (unhide honep) hb63 hby (by simpa using hbase) ?_)
        intro v' w3 ho3 hg3 _
        have B3 : Below w.heap.size w w3 := (B2.alloc B2.size _).grown hg3 (by simpa using hbase) (unhide hbse)
        have hoi3 : OwnI w3 ba (firstPl v 0 m) := by
          obtain ⟨ys, y1, y2⟩ := unhide HOI
          exact ⟨ys, grown_own hg3 (y1.alloc _) (unhide hnb), y2⟩
        have hres3 := hide (show ∀ j, j < k + 1 → Res w3 w.heap.size ((ss ++ [Value.slice pa pn pc]).getD j (.slice none 0 0)) (part v (M.iter v j 1)) by
          intro j hj
          have hl := hsl.out
          by_cases e : j = k
          · subst e
            rw [← unhide HPP, List.getD_eq_getElem?_getD, List.getElem?_append_right (by omega), hl, Nat.sub_self]
            exact (unhide hkeep) _ _ hg3 _ _ (unhide HRP)
          · rw [List.getD_eq_getElem?_getD, List.getElem?_append_left (by omega), ← List.getD_eq_getElem?_getD]
            exact (unhide hkeep) _ _ hg3 _ _ ((unhide hres2) j (by omega)))
        have hdis3 := hide (show ∀ i j, i < j → j < k + 1 → ∀ b, ((ss ++ [Value.slice pa pn pc]).getD i (.slice none 0 0)).ownBlock = some b → ((ss ++ [Value.slice pa pn pc]).getD j (.slice none 0 0)).ownBlock ≠ some b by
          intro i j h1 h2 b
          have hl := hsl.out
          rw [List.getD_eq_getElem?_getD, List.getElem?_append_left (by omega), ← List.getD_eq_getElem?_getD]
          by_cases e : j = k
          · rw [List.getD_eq_getElem?_getD (l := ss ++ _), List.getElem?_append_right (by omega), show j - ss.length = 0 from by omega]
            exact (unhide hnew) i (by omega) b
          · rw [List.getD_eq_getElem?_getD (l := ss ++ _), List.getElem?_append_left (by omega), ← List.getD_eq_getElem?_getD]
            exact hdis.out i j h1 (by omega) b)
        have HO3 := hide ho3
        clear ho3 hg3 B2
        go_wp2_with fail
        go_roundg (m - (k + 1))
        case rel => exact ⟨k + 1, _, rfl, by go_num, by omega, unhide HO3, (by show _ = _; rw [List.length_append, hsl.out]; rfl), unhide hres3, unhide hdis3, hoi3, B3⟩
        case measure => have := hg.out; omega
      · have hke : k = m := by omega
        subst hke
        have fin := hide (unhide hall)
        have hks : SD wr w.heap.size u3 (subs v 0) := by
          rw [← unhide fin]
          exact ⟨ss, by rw [firstS_length]; exact hsl.out, by rw [firstS_length]; exact hown, fun i hi => (by rw [firstS_length] at hi; rw [firstS_getD v k i hi]; exact hres.out i hi), fun i j h1 h2 => (by rw [firstS_length] at h2; exact hdis.out i j h1 h2)⟩
        have HKS := hide hks
        have hsh : ∃ aa nn cc, u3 = Value.slice aa nn cc := by
          rcases hown.2 with ⟨h, _⟩ | ⟨_, _, _, h, _⟩
          · exact ⟨_, _, _, h⟩
          · exact ⟨_, _, _, h⟩
        obtain ⟨aa, nn, cc, hsh⟩ := hsh
        subst hsh
        clear hown hks hoi hres hdis
        go_wp2_with fail
        go_ret
        exact ⟨_, rfl, unhide HKS, hbel⟩

end Go.Proofs.YtcglddahphkcpaaGreatDoor
