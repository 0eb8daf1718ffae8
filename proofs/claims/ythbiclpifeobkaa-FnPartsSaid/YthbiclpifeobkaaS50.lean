/-
  Plainly: a value and all values in it, each ahead of those in it.
  spec.PartAt and impl.PartAt answer alike.
  A value is put together again of its parts.
-/
import Derived.Test.YthbiclpifeobkaaS26
import Derived.Test.YthbiclpifeobkaaS27
import Derived.Test.YthbiclpifeobkaaS45
import Derived.Test.YthbiclpifeobkaaS46
import Derived.Test.YthbiclpifeobkaaS48
import Derived.Test.YthbiclpifeobkaaS49
namespace Go.Proofs.Ythbiclpifeobkaa
open Go.RowKit
set_option linter.unusedVariables false

theorem end_whole {v : List M.Cl} (hv : M.valueFault v = 0) : M.endOf v 0 = v.length := by
  obtain ⟨_, _, _, _, d, hw, _⟩ := M.fault_zero hv
  exact M.endOf_of (Nat.le_refl _) hw
theorem part_okc {v : List M.Cl} (hv : M.valueFault v = 0) (hok : ∀ c ∈ v, c.ok) {a : Nat} (ha : a < v.length) : ∀ c ∈ part v a, c.ok := by
  intro c hc
  obtain ⟨i, hi, rfl⟩ := List.getElem_of_mem hc
  have hl := part_len hv ha
  have hE := end_gt hv ha
  have hg : (part v a)[i] = (part v a).getD i M.zero := by rw [List.getD_eq_getElem?_getD, List.getElem?_eq_getElem hi]; rfl
  rw [hg]
  by_cases e : i = 0
  · subst e
    rw [part_zero hv ha]
    have := hok _ (getD_mem v a ha)
    unfold M.Cl.ok at this ⊢
    simp only at this ⊢
    refine ⟨this.1, this.2.1, this.2.2.1, this.2.2.2.1, ?_⟩
    decide
  · rw [part_getD i (by omega) (by omega)]
    exact hok _ (getD_mem v _ (by omega))
end Go.Proofs.Ythbiclpifeobkaa

namespace Go.Proofs.Ythbiclpifeobkaa
open Go.RowKit
set_option linter.unusedVariables false

/-- What PartAt answers. -/
def partOut (v : List M.Cl) (at' : Int) : Int × List M.Cl := if asked v at' ≠ 0 then (asked v at', []) else (0, part v at'.toNat)
theorem part_bad {v : List M.Cl} {at' : Int} (h : asked v at' ≠ 0) : partOut v at' = (asked v at', []) := by unfold partOut; rw [if_pos h]
theorem part_ok {v : List M.Cl} {at' : Int} (h : asked v at' = 0) : partOut v at' = (0, part v at'.toNat) := by unfold partOut; rw [if_neg (by simp [h])]

set_option maxHeartbeats 1000000 in
theorem implPartAt_any (v : List M.Cl) (b off cap : Nat) (at' : Int) (w : World) (hrow : Row w b off v) (hb : b < w.heap.size) (hn : v.length ≤ 1048576) (hcap : v.length ≤ cap) (hok : ∀ c ∈ v, c.ok) :
    Calls Try.prog 19 #[.slice (some ⟨b, off, none⟩) v.length cap, .int .i64 at'] w fun e w' => ∃ s, e = .returned (.agg #[.int .i64 (partOut v at').1, s]) ∧ Res w' w.heap.size s (partOut v at').2 ∧ Below w.heap.size w w' := by
  have OK := hide hok
  clear hok
  have B0 : ∀ o, Below w.heap.size w (w.alloc o) := fun o => (Below.refl _ _).alloc (Nat.le_refl _) _
  have HB0 := hide B0
  clear B0
  go_enter Try.func19, Try.ntmps19
  go_wp2_with fail
  refine (placeFault_any v b off cap at' _ (hrow.below ((unhide HB0) _) hb) (by simp; omega) hn hcap (unhide OK)).mono ?_
  rintro e1 w1 ⟨rfl, hb1⟩
  have hR : Own w1 w.heap.size 41 [.int .i64 0, .slice none 0 0] := Own.below ⟨_, heap_alloc_new _ _, rfl⟩ hb1 (by simp)
  have B1 : Below w.heap.size w w1 := ((unhide HB0) _).trans (hb1.mono (by simp))
  generalize hq : asked v at' = q
  by_cases hz : q = 0
  · subst hz
    have fin := hide (part_ok hq)
    obtain ⟨hv, a0, a1⟩ := asked_zero hq
    have HV := hide hv
    clear hq
    obtain ⟨a, rfl⟩ := Int.eq_ofNat_of_zero_le a0
    rw [Int.toNat_natCast] at fin
    have hrow1 := hrow.below B1 hb
    have hb1' : b < w1.heap.size := Nat.lt_of_lt_of_le hb B1.size
    clear hv
    go_wp2_with fail
    refine (partOf_any v b off cap a _ (unhide HV) (by omega) hrow1 hb1' hcap).mono ?_
    rintro e3 w3 ⟨s, rfl, hr2, hb2⟩
    have hR2 := hR.below hb2 hR.lt
    have B2 : Below w.heap.size w w3 := B1.trans (hb2.mono B1.size)
    have r0 := hR2.cell 0
    have r1 := hR2.cell 1
    have z0 := hR2.frozen 0
    have z1 := hR2.frozen 1
    simp only [List.getElem?_cons_zero, List.getElem?_cons_succ] at r0 r1
    have hne : ∀ b, s.ownBlock = some b → b ≠ w.heap.size := fun b h => by have := hr2.base b h; have := hR.lt; omega
    have hr3 : ∀ x y, Res ((w3.setCell ⟨w.heap.size, 0, none⟩ x).setCell ⟨w.heap.size, 1, none⟩ y) w.heap.size s (part v a) := fun x y => ((hr2.mono B1.size).setOther _ _ hne).setOther _ _ hne
    have HR3 := hide hr3
    have hsh := hr2.shape
    obtain ⟨a1, m1, c1, rfl⟩ := hsh
    clear hr2 hr3 hb2 hne
    go_wp2_with fail
    refine bodyPost_ret (v := .agg #[.int .i64 0, .slice a1 m1 c1]) (by simp [results, Try.results19, go_sem, r0, r1]) rfl ⟨.slice a1 m1 c1, by rw [unhide fin], ?_, ?_⟩
    · rw [unhide fin]; exact (unhide HR3) _ _
    · exact (B2.setCell (Nat.le_refl _) _).setCell (Nat.le_refl _) _
  · have fin := hide ((part_bad (v := v) (at' := at') (by rw [hq]; exact hz)).trans (by rw [hq]))
    have hz' : (q == 0) = false := by simp [hz]
    have r0 := hR.cell 0
    have r1 := hR.cell 1
    have z0 := hR.frozen 0
    have z1 := hR.frozen 1
    simp only [List.getElem?_cons_zero, List.getElem?_cons_succ] at r0 r1
    clear hq
    go_wp2_with fail
    refine bodyPost_ret (v := .agg #[.int .i64 q, .slice none 0 0]) (by simp [results, Try.results19, go_sem, r0, r1]) rfl ⟨.slice none 0 0, by rw [unhide fin], ?_, ?_⟩
    · rw [unhide fin]; exact ⟨by simp, .inl ⟨rfl, rfl⟩⟩
    · exact (B1.setCell (Nat.le_refl _) _).setCell (Nat.le_refl _) _

end Go.Proofs.Ythbiclpifeobkaa

namespace Go.Proofs.Ythbiclpifeobkaa
open Go.RowKit
set_option linter.unusedVariables false

theorem bytes_nil {b : ByteArray} (h : b.toList = []) : b = ByteArray.empty := bytes_ext (h.trans empty_list.symm)
/-- The parts of an array have no keys. -/
theorem keys_none (v : List M.Cl) (hv : M.valueFault v = 0) (hk : (v.getD 0 M.zero).kind = 5) : ∀ j, j < M.arity v 0 → (v.getD (M.iter v j 1) M.zero).key.toList = [] := by
  have hl := (M.fault_zero hv).1
  obtain ⟨d, hw, _⟩ := (M.fault_zero hv).2.2.2.2
  obtain ⟨f, hf⟩ : ∃ f, v.length = f + 1 := ⟨v.length - 1, by omega⟩
  have hw' := hw
  rw [hf] at hw'
  simp only [M.walk, Option.map_eq_some_iff] at hw'
  obtain ⟨r, h1, _⟩ := hw'
  have key : ∀ m k e d last r, M.kids (M.walk v f) v (v.getD 0 M.zero) m k e d last = some r → e ≤ v.length → d ≤ f → ∀ j, j < m → (v.getD (M.iter v j e) M.zero).key.toList = [] := by
    intro m
    induction m with
    | zero => intro k e d last r _ _ _ j hj; omega
    | succ m ih =>
      intro k e d last r h he hd j hj
      simp only [M.kids] at h
      split at h
      · cases h
      rename_i hb
      have hlt : e < v.length := by
        by_cases hx : e < v.length
        · exact hx
        · exact absurd (show M.bad v (v.getD 0 M.zero) k e last = true by unfold M.bad; rw [if_neg hx]) hb
      split at h
      · cases h
      · rename_i e1 d1 hr
        have hwb := M.walk_bd v f e hlt _ hr
        simp only at hwb
        have he1 : M.endOf v e = e1 := M.endOf_of (by omega) hr
        cases j with
        | zero =>
          show (v.getD e M.zero).key.toList = []
          have hb' : M.bad v (v.getD 0 M.zero) k e last = false := by cases hx : M.bad v (v.getD 0 M.zero) k e last with | true => exact absurd hx hb | false => rfl
          unfold M.bad at hb'
          rw [if_pos hlt, Bool.or_eq_false_iff] at hb'
          have h2 := hb'.1
          rw [hk, decide_eq_true rfl] at h2
          simpa using h2
        | succ j =>
          have := ih (k + 1) e1 (max d d1) _ r h hwb.2.1 (by omega) j (by omega)
          rw [show M.iter v (j + 1) e = M.iter v j e1 by rw [M.iter, he1]]
          exact this
  intro j hj
  exact key _ 0 1 0 ByteArray.empty r h1 (by omega) (by omega) j (by unfold M.arity at hj; omega)
theorem head_cell {v : List M.Cl} (hv : M.valueFault v = 0) {k : Int} (hk : (v.getD 0 M.zero).kind = k) (h56 : k = 5 ∨ k = 6) : v.getD 0 M.zero = headCl k (M.arity v 0) := by
  have hl := (M.fault_zero hv).1
  have hkey := fault_key hv
  have hc := M.first_zero (M.fault_zero hv).2.2.1 _ (getD_mem v 0 (by omega))
  unfold M.arity
  generalize v.getD 0 M.zero = c at *
  obtain ⟨kind, num, text, key, n⟩ := c
  simp only at hk hkey hc
  subst hk
  subst hkey
  unfold M.cellCode at hc
  simp only at hc
  split at hc
  · cases hc
  split at hc
  · cases hc
  rename_i h1
  split at hc
  · cases hc
  rename_i h2
  have hnum : num = 0 := by
    by_cases e : num = 0
    · exact e
    · exact absurd (.inl ⟨e, by omega⟩) h1
  have htx : text.toList = [] := by
    by_cases e : text.toList = []
    · exact e
    · exact absurd (.inr (.inl ⟨e, by omega⟩)) h1
  unfold headCl
  rw [hnum, show text = ByteArray.empty from bytes_nil htx]
  simp only
  rw [show ((n.toNat : Nat) : Int) = n from Int.toNat_of_nonneg (by omega)]
theorem take_parts {v : List M.Cl} (hv : M.valueFault v = 0) (k : Nat) (hk : k ≤ M.arity v 0) : v.take (M.iter v k 1) = v.take 1 ++ ((List.range k).map fun j => cut v (M.iter v j 1) (M.iter v (j + 1) 1)).flatten := by
  have hl := (M.fault_zero hv).1
  have hin := M.places_in hv 0 (by omega)
  induction k with
  | zero => simp [M.iter]
  | succ k ih =>
    have h1 := hin.1 k (by omega)
    simp only [Nat.zero_add] at h1
    have hg := end_gt hv (a := M.iter v k 1) (by have := hin.2.2.1; omega)
    rw [← M.iter_next] at hg
    rw [List.range_succ, List.map_append, List.flatten_append, ← List.append_assoc, ← ih (by omega)]
    simp only [List.map_cons, List.map_nil, List.flatten_cons, List.flatten_nil, List.append_nil]
    unfold cut
    obtain ⟨m, hm⟩ : ∃ m, M.iter v (k + 1) 1 = M.iter v k 1 + m := ⟨M.iter v (k + 1) 1 - M.iter v k 1, by omega⟩
    rw [hm, Nat.add_sub_cancel_left, List.take_add]
theorem flat_parts {v : List M.Cl} (hv : M.valueFault v = 0) : v = v.getD 0 M.zero :: ((List.range (M.arity v 0)).map fun j => cut v (M.iter v j 1) (M.iter v (j + 1) 1)).flatten := by
  have hl := (M.fault_zero hv).1
  have h2 := (M.places_in hv 0 (by omega)).2.1
  simp only [Nat.zero_add] at h2
  have := take_parts hv (M.arity v 0) (Nat.le_refl _)
  rw [h2, end_whole hv, List.take_length] at this
  have ht : v.take 1 = [v.getD 0 M.zero] := by
    cases v with
    | nil => simp at hl
    | cons c r => simp
  rw [ht] at this
  exact this
theorem cut_key {v : List M.Cl} (hv : M.valueFault v = 0) {j : Nat} (hj : j < M.arity v 0) : setKey (part v (M.iter v j 1)) (v.getD (M.iter v j 1) M.zero).key = cut v (M.iter v j 1) (M.iter v (j + 1) 1) := by
  have hl := (M.fault_zero hv).1
  have hin := M.places_in hv 0 (by omega)
  have h1 := hin.1 j hj
  simp only [Nat.zero_add] at h1
  have hlt : M.iter v j 1 < v.length := by have := hin.2.2.1; omega
  have hne := cut_ne hv hlt
  have hz := cut_getD v (M.iter v j 1) (M.endOf v (M.iter v j 1)) 0 (by have := end_gt hv hlt; omega)
  rw [Nat.add_zero] at hz
  rw [← hz]
  unfold part
  rw [M.iter_next]
  generalize cut v (M.iter v j 1) (M.endOf v (M.iter v j 1)) = q at *
  cases q with
  | nil => exact absurd rfl hne
  | cons c r => rfl
theorem arr_again {v : List M.Cl} (hv : M.valueFault v = 0) (hk : (v.getD 0 M.zero).kind = 5) : arrV (subs v 0) = v := by
  have e : arrV (subs v 0) = headCl 5 (subs v 0).length :: (subs v 0).flatten := by unfold arrV arrK; rw [List.take_length]
  rw [e, subs_length, ← head_cell hv hk (.inl rfl)]
  conv => rhs; rw [flat_parts hv]
  refine congrArg _ (congrArg _ ?_)
  unfold subs M.places
  rw [List.map_map]
  refine List.map_congr_left fun j hj => ?_
  have hj := List.mem_range.1 hj
  show part v (M.iter v j (0 + 1)) = _
  rw [Nat.zero_add, ← cut_key hv hj, show (v.getD (M.iter v j 1) M.zero).key = ByteArray.empty from bytes_nil (keys_none v hv hk j hj)]
  have hin := M.places_in hv 0 (by have := (M.fault_zero hv).1; omega)
  have h1 := hin.1 j hj
  simp only [Nat.zero_add] at h1
  exact (setKey_none (part_valid hv (by have := hin.2.2.1; omega))).symm
theorem obj_again {v : List M.Cl} (hv : M.valueFault v = 0) (hk : (v.getD 0 M.zero).kind = 6) : objV (keysAt v 0) (subs v 0) = v := by
  have hkl : (keysAt v 0).length = M.arity v 0 := keysAt_length v 0
  have hg : ∀ i, i < M.arity v 0 → (keysAt v 0).getD i ByteArray.empty = (v.getD (M.iter v i 1) M.zero).key := fun i hi => by simp [keysAt, M.places, List.getD_eq_getElem?_getD, hi]
  have hs : ∀ i, i < M.arity v 0 → (subs v 0).getD i [] = part v (M.iter v i 1) := fun i hi => by simp [subs, M.places, List.getD_eq_getElem?_getD, hi]
  have hst := stand_rise (keysAt v 0) (fun i j hij hj => by rw [hkl] at hj; rw [hg i (by omega), hg j hj]; exact keys_rise2 v hv hk i j hij hj) _ (Nat.le_refl _)
  unfold objV
  rw [hst, hkl]
  unfold objK memK
  rw [List.take_length, List.length_range, ← head_cell hv hk (.inr rfl)]
  conv => rhs; rw [flat_parts hv]
  refine congrArg _ (congrArg _ (List.map_congr_left fun j hj => ?_))
  have hj := List.mem_range.1 hj
  rw [hg j hj, hs j hj, cut_key hv hj]

end Go.Proofs.Ythbiclpifeobkaa
