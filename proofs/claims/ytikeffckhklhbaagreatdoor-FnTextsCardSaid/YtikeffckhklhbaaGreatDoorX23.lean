/-
  spec.RangeOf and impl.RangeOf.
  What KeysOf tells, plainly; texts and lists that do not touch one another.
  What DropKey tells, plainly: an object without one of its members has no fault.
  Lists of parts that are kept where another list grows.
  A value is put together again of its parts. No word of the program is used here.
-/
import Derived.Test.YtikeffckhklhbaaGreatDoorX16
import Derived.Test.YtikeffckhklhbaaGreatDoorX21
import Derived.Test.YtikeffckhklhbaaGreatDoorX22
import Derived.Maps.AppendAt
namespace Go.Proofs.YtikeffckhklhbaaGreatDoor
open Go.RowKit
set_option linter.unusedVariables false

end Go.Proofs.YtikeffckhklhbaaGreatDoor

namespace Go.Proofs.YtikeffckhklhbaaGreatDoor
open Go.RowKit
set_option linter.unusedVariables false

def TextsOk (ks : List ByteArray) : Prop := ∀ j, j < ks.length → M.textOk (ks.getD j ByteArray.empty) = true
theorem keys_text {v : List M.Cl} (hv : M.valueFault v = 0) : TextsOk (keysAt v 0) := by
  intro j hj
  have hl := (M.fault_zero hv).1
  rw [keysAt_length] at hj
  rw [show (keysAt v 0).getD j ByteArray.empty = (v.getD (M.iter v j 1) M.zero).key from by simp [keysAt, M.places, List.getD_eq_getElem?_getD, hj]]
  obtain ⟨h1, h2, h3, _⟩ := M.places_in hv 0 (by omega)
  have h5 := h1 j hj
  simp only [Nat.zero_add] at h5
  have h := code_at hv (M.iter v j 1) (by omega)
  unfold M.cellCode at h
  split at h
  · cases h
  split at h
  · cases h
  split at h
  · cases h
  split at h
  · rename_i h4; exact h4.2
  · cases h
end Go.Proofs.YtikeffckhklhbaaGreatDoor

namespace Go.Proofs.YtikeffckhklhbaaGreatDoor
open Go.RowKit
set_option linter.unusedVariables false

/-- The keys of an object's members rise. -/
theorem keys_rise (v : List M.Cl) (hv : M.valueFault v = 0) (hk : (v.getD 0 M.zero).kind = 6) : ∀ j, j + 1 < M.arity v 0 → M.keyLe (v.getD (M.iter v (j + 1) 1) M.zero).key (v.getD (M.iter v j 1) M.zero).key = false := by
  have hl := (M.fault_zero hv).1
  obtain ⟨d, hw, _⟩ := (M.fault_zero hv).2.2.2.2
  obtain ⟨f, hf⟩ : ∃ f, v.length = f + 1 := ⟨v.length - 1, by omega⟩
  have hw' := hw
  rw [hf] at hw'
  simp only [M.walk, Option.map_eq_some_iff] at hw'
  obtain ⟨r, h1, _⟩ := hw'
  have key : ∀ m k e d last r, M.kids (M.walk v f) v (v.getD 0 M.zero) m k e d last = some r → e ≤ v.length → d ≤ f → (∀ j, j < m → (0 < k + j → M.keyLe (v.getD (M.iter v j e) M.zero).key (if j = 0 then last else (v.getD (M.iter v (j - 1) e) M.zero).key) = false)) := by
    intro m
    induction m with
    | zero => intro k e d last r _ _ _ j hj; omega
    | succ m ih =>
      intro k e d last r h he hd j hj hkj
      simp only [M.kids] at h
      split at h
      · cases h
      rename_i hb
      have hlt : e < v.length := by
        by_cases hx : e < v.length
        · exact hx
        · exact absurd (show M.bad v (v.getD 0 M.zero) k e last = true by unfold M.bad; rw [if_neg hx]) hb
      split at h
      · cases h
      · rename_i e1 d1 hr
        have hwb := M.walk_bd v f e hlt _ hr
        simp only at hwb
        have he1 : M.endOf v e = e1 := M.endOf_of (by omega) hr
        cases j with
        | zero =>
          rw [if_pos rfl]
          show M.keyLe (v.getD e M.zero).key last = false
          have hb' : M.bad v (v.getD 0 M.zero) k e last = false := by cases hx : M.bad v (v.getD 0 M.zero) k e last with | true => exact absurd hx hb | false => rfl
          unfold M.bad at hb'
          rw [if_pos hlt, Bool.or_eq_false_iff] at hb'
          have h2 := hb'.2
          rw [hk, decide_eq_true rfl, decide_eq_true (show 0 < k by omega)] at h2
          simpa using h2
        | succ j =>
          have := ih (k + 1) e1 (max d d1) _ r h hwb.2.1 (by omega) j (by omega) (by omega)
          rw [if_neg (by omega), Nat.add_sub_cancel]
          have hi : M.iter v (j + 1) e = M.iter v j e1 := by rw [M.iter, he1]
          rw [hi]
          by_cases hj0 : j = 0
          · subst hj0
            rw [if_pos rfl] at this
            exact this
          · rw [if_neg hj0] at this
            have hi2 : M.iter v j e = M.iter v (j - 1) e1 := by
              obtain ⟨i, rfl⟩ : ∃ i, j = i + 1 := ⟨j - 1, by omega⟩
              rw [M.iter, he1]; rfl
            rw [hi2]
            exact this
  intro j hj
  have := key _ 0 1 0 ByteArray.empty r h1 (by omega) (by omega) (j + 1) (by unfold M.arity at hj; omega) (by omega)
  rwa [if_neg (by omega), Nat.add_sub_cancel] at this
theorem keyLe_false {a b : ByteArray} (h : M.keyLe a b = false) : Op.bytesLess b.toList a.toList = true := by
  unfold M.keyLe at h
  rw [Bool.or_eq_false_iff] at h
  rcases St.bl_tri b.toList a.toList with h1 | h1 | h1
  · exact h1
  · have := h.2
    rw [h1] at this
    simp at this
  · rw [h1] at h; cases h.1
theorem keys_rise2 (v : List M.Cl) (hv : M.valueFault v = 0) (hk : (v.getD 0 M.zero).kind = 6) (i j : Nat) (hij : i < j) (hj : j < M.arity v 0) : Op.bytesLess (v.getD (M.iter v i 1) M.zero).key.toList (v.getD (M.iter v j 1) M.zero).key.toList = true := by
  induction j with
  | zero => omega
  | succ j ih =>
    have h1 := keyLe_false (keys_rise v hv hk j hj)
    by_cases e : i = j
    · subst e; exact h1
    · exact St.bl_trans _ _ _ (ih (by omega) (by omega)) h1
/-- Keys that rise stand as they are. -/
theorem stand_rise (ks : List ByteArray) (h : ∀ i j, i < j → j < ks.length → Op.bytesLess (ks.getD i ByteArray.empty).toList (ks.getD j ByteArray.empty).toList = true) (k : Nat) (hk : k ≤ ks.length) : St.stand ks k = List.range k := by
  refine St.pw_ext (ks := ks) _ _ (St.stand_pw ks k) ?_ (fun x => ?_)
  · refine List.Pairwise.imp_of_mem (R := (· < ·)) (fun {a b} ha hb hab => ?_) (List.pairwise_lt_range (n := k))
    exact h a b hab (by have := List.mem_range.1 hb; omega)
  · rw [St.stand_mem, List.mem_range]
    refine ⟨fun g => g.1, fun g => ⟨g, fun q h1 h2 e => ?_⟩⟩
    have := h x q h1 (by omega)
    unfold St.kl at e
    rw [← e, St.bl_irr] at this
    cases this

end Go.Proofs.YtikeffckhklhbaaGreatDoor

namespace Go.Proofs.YtikeffckhklhbaaGreatDoor
open Go.RowKit
set_option linter.unusedVariables false

/-- Two slices lie in unlike blocks. -/
def Apart (s t : Value) : Prop := ∀ g, t.ownBlock = some g → s.ownBlock ≠ some g
end Go.Proofs.YtikeffckhklhbaaGreatDoor

namespace Go.Proofs.YtikeffckhklhbaaGreatDoor
open Go.RowKit
set_option linter.unusedVariables false

theorem bytes_nil {b : ByteArray} (h : b.toList = []) : b = ByteArray.empty := bytes_ext (h.trans empty_list.symm)
/-- The parts of an array have no keys. -/
theorem keys_none (v : List M.Cl) (hv : M.valueFault v = 0) (hk : (v.getD 0 M.zero).kind = 5) : ∀ j, j < M.arity v 0 → (v.getD (M.iter v j 1) M.zero).key.toList = [] := by
  have hl := (M.fault_zero hv).1
  obtain ⟨d, hw, _⟩ := (M.fault_zero hv).2.2.2.2
  obtain ⟨f, hf⟩ : ∃ f, v.length = f + 1 := ⟨v.length - 1, by omega⟩
  have hw' := hw
  rw [hf] at hw'
  simp only [M.walk, Option.map_eq_some_iff] at hw'
  obtain ⟨r, h1, _⟩ := hw'
  have key : ∀ m k e d last r, M.kids (M.walk v f) v (v.getD 0 M.zero) m k e d last = some r → e ≤ v.length → d ≤ f → ∀ j, j < m → (v.getD (M.iter v j e) M.zero).key.toList = [] := by
    intro m
    induction m with
    | zero => intro k e d last r _ _ _ j hj; omega
    | succ m ih =>
      intro k e d last r h he hd j hj
      simp only [M.kids] at h
      split at h
      · cases h
      rename_i hb
      have hlt : e < v.length := by
        by_cases hx : e < v.length
        · exact hx
        · exact absurd (show M.bad v (v.getD 0 M.zero) k e last = true by unfold M.bad; rw [if_neg hx]) hb
      split at h
      · cases h
      · rename_i e1 d1 hr
        have hwb := M.walk_bd v f e hlt _ hr
        simp only at hwb
        have he1 : M.endOf v e = e1 := M.endOf_of (by omega) hr
        cases j with
        | zero =>
          show (v.getD e M.zero).key.toList = []
          have hb' : M.bad v (v.getD 0 M.zero) k e last = false := by cases hx : M.bad v (v.getD 0 M.zero) k e last with | true => exact absurd hx hb | false => rfl
          unfold M.bad at hb'
          rw [if_pos hlt, Bool.or_eq_false_iff] at hb'
          have h2 := hb'.1
          rw [hk, decide_eq_true rfl] at h2
          simpa using h2
        | succ j =>
          have := ih (k + 1) e1 (max d d1) _ r h hwb.2.1 (by omega) j (by omega)
          rw [show M.iter v (j + 1) e = M.iter v j e1 by rw [M.iter, he1]]
          exact this
  intro j hj
  exact key _ 0 1 0 ByteArray.empty r h1 (by omega) (by omega) j (by unfold M.arity at hj; omega)
theorem head_cell {v : List M.Cl} (hv : M.valueFault v = 0) {k : Int} (hk : (v.getD 0 M.zero).kind = k) (h56 : k = 5 ∨ k = 6) : v.getD 0 M.zero = headCl k (M.arity v 0) := by
  have hl := (M.fault_zero hv).1
  have hkey := fault_key hv
  have hc := M.first_zero (M.fault_zero hv).2.2.1 _ (getD_mem v 0 (by omega))
  unfold M.arity
  generalize v.getD 0 M.zero = c at *
  obtain ⟨kind, num, text, key, n⟩ := c
  simp only at hk hkey hc
  subst hk
  subst hkey
  unfold M.cellCode at hc
  simp only at hc
  split at hc
  · cases hc
  split at hc
  · cases hc
  rename_i h1
  split at hc
  · cases hc
  rename_i h2
  have hnum : num = 0 := by
    by_cases e : num = 0
    · exact e
    · exact absurd (.inl ⟨e, by omega⟩) h1
  have htx : text.toList = [] := by
    by_cases e : text.toList = []
    · exact e
    · exact absurd (.inr (.inl ⟨e, by omega⟩)) h1
  unfold headCl
  rw [hnum, show text = ByteArray.empty from bytes_nil htx]
  simp only
  rw [show ((n.toNat : Nat) : Int) = n from Int.toNat_of_nonneg (by omega)]
theorem take_parts {v : List M.Cl} (hv : M.valueFault v = 0) (k : Nat) (hk : k ≤ M.arity v 0) : v.take (M.iter v k 1) = v.take 1 ++ ((List.range k).map fun j => cut v (M.iter v j 1) (M.iter v (j + 1) 1)).flatten := by
  have hl := (M.fault_zero hv).1
  have hin := M.places_in hv 0 (by omega)
  induction k with
  | zero => simp [M.iter]
  | succ k ih =>
    have h1 := hin.1 k (by omega)
    simp only [Nat.zero_add] at h1
    have hg := end_gt hv (a := M.iter v k 1) (by have := hin.2.2.1; omega)
    rw [← M.iter_next] at hg
    rw [List.range_succ, List.map_append, List.flatten_append, ← List.append_assoc, ← ih (by omega)]
    simp only [List.map_cons, List.map_nil, List.flatten_cons, List.flatten_nil, List.append_nil]
    unfold cut
    obtain ⟨m, hm⟩ : ∃ m, M.iter v (k + 1) 1 = M.iter v k 1 + m := ⟨M.iter v (k + 1) 1 - M.iter v k 1, by omega⟩
    rw [hm, Nat.add_sub_cancel_left, List.take_add]
theorem Dq.end_whole {v : List M.Cl} (hv : M.valueFault v = 0) : M.endOf v 0 = v.length := by
  obtain ⟨_, _, _, _, d, hw, _⟩ := M.fault_zero hv
  exact M.endOf_of (Nat.le_refl _) hw
theorem flat_parts {v : List M.Cl} (hv : M.valueFault v = 0) : v = v.getD 0 M.zero :: ((List.range (M.arity v 0)).map fun j => cut v (M.iter v j 1) (M.iter v (j + 1) 1)).flatten := by
  have hl := (M.fault_zero hv).1
  have h2 := (M.places_in hv 0 (by omega)).2.1
  simp only [Nat.zero_add] at h2
  have := take_parts hv (M.arity v 0) (Nat.le_refl _)
  rw [h2, Dq.end_whole hv, List.take_length] at this
  have ht : v.take 1 = [v.getD 0 M.zero] := by
    cases v with
    | nil => simp at hl
    | cons c r => simp
  rw [ht] at this
  exact this
theorem cut_key {v : List M.Cl} (hv : M.valueFault v = 0) {j : Nat} (hj : j < M.arity v 0) : setKey (part v (M.iter v j 1)) (v.getD (M.iter v j 1) M.zero).key = cut v (M.iter v j 1) (M.iter v (j + 1) 1) := by
  have hl := (M.fault_zero hv).1
  have hin := M.places_in hv 0 (by omega)
  have h1 := hin.1 j hj
  simp only [Nat.zero_add] at h1
  have hlt : M.iter v j 1 < v.length := by have := hin.2.2.1; omega
  have hne := cut_ne hv hlt
  have hz := cut_getD v (M.iter v j 1) (M.endOf v (M.iter v j 1)) 0 (by have := end_gt hv hlt; omega)
  rw [Nat.add_zero] at hz
  rw [← hz]
  unfold part
  rw [M.iter_next]
  generalize cut v (M.iter v j 1) (M.endOf v (M.iter v j 1)) = q at *
  cases q with
  | nil => exact absurd rfl hne
  | cons c r => rfl
theorem arr_again {v : List M.Cl} (hv : M.valueFault v = 0) (hk : (v.getD 0 M.zero).kind = 5) : arrV (subs v 0) = v := by
  have e : arrV (subs v 0) = headCl 5 (subs v 0).length :: (subs v 0).flatten := by unfold arrV arrK; rw [List.take_length]
  rw [e, subs_length, ← head_cell hv hk (.inl rfl)]
  conv => rhs; rw [flat_parts hv]
  refine congrArg _ (congrArg _ ?_)
  unfold subs M.places
  rw [List.map_map]
  refine List.map_congr_left fun j hj => ?_
  have hj := List.mem_range.1 hj
  show part v (M.iter v j (0 + 1)) = _
  rw [Nat.zero_add, ← cut_key hv hj, show (v.getD (M.iter v j 1) M.zero).key = ByteArray.empty from bytes_nil (keys_none v hv hk j hj)]
  have hin := M.places_in hv 0 (by have := (M.fault_zero hv).1; omega)
  have h1 := hin.1 j hj
  simp only [Nat.zero_add] at h1
  exact (setKey_none (part_valid hv (by have := hin.2.2.1; omega))).symm
theorem obj_again {v : List M.Cl} (hv : M.valueFault v = 0) (hk : (v.getD 0 M.zero).kind = 6) : objV (keysAt v 0) (subs v 0) = v := by
  have hkl : (keysAt v 0).length = M.arity v 0 := keysAt_length v 0
  have hg : ∀ i, i < M.arity v 0 → (keysAt v 0).getD i ByteArray.empty = (v.getD (M.iter v i 1) M.zero).key := fun i hi => by simp [keysAt, M.places, List.getD_eq_getElem?_getD, hi]
  have hs : ∀ i, i < M.arity v 0 → (subs v 0).getD i [] = part v (M.iter v i 1) := fun i hi => by simp [subs, M.places, List.getD_eq_getElem?_getD, hi]
  have hst := stand_rise (keysAt v 0) (fun i j hij hj => by rw [hkl] at hj; rw [hg i (by omega), hg j hj]; exact keys_rise2 v hv hk i j hij hj) _ (Nat.le_refl _)
  unfold objV
  rw [hst, hkl]
  unfold objK memK
  rw [List.take_length, List.length_range, ← head_cell hv hk (.inr rfl)]
  conv => rhs; rw [flat_parts hv]
  refine congrArg _ (congrArg _ (List.map_congr_left fun j hj => ?_))
  have hj := List.mem_range.1 hj
  rw [hg j hj, hs j hj, cut_key hv hj]

end Go.Proofs.YtikeffckhklhbaaGreatDoor
