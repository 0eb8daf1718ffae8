/-
  The text of a value, as a plain function of its cells. No word of the program is used here.
-/
import Derived.Test.YtlbmpldknfcfhaaDoorV15
import Derived.Test.YtlbmpldknfcfhaaDoorV16
import Derived.Lib.ItoaLen
import Derived.Lib.ItoaNum
namespace Go.Proofs.YtlbmpldknfcfhaaDoor
open Go.RowKit
set_option linter.unusedVariables false
namespace J
/-- What stands ahead of the k-th part: a comma, and a member's key. -/
def ahead (obj : Bool) (ks : List ByteArray) (k : Nat) : List UInt8 := (if k = 0 then [] else [44]) ++ (if obj = true then quote (ks.getD k ByteArray.empty) ++ [58] else [])
/-- The texts of the first k parts. -/
def partsK (g : List M.Cl → List UInt8) (obj : Bool) (ks : List ByteArray) (ps : List (List M.Cl)) : Nat → List UInt8
  | 0 => []
  | k + 1 => partsK g obj ks ps k ++ (ahead obj ks k ++ g (ps.getD k []))
/-- The text of a value, by fuel. -/
def encL : Nat → List M.Cl → List UInt8
  | 0, _ => []
  | f + 1, v =>
    if (v.getD 0 M.zero).kind = 0 then [110, 117, 108, 108]
    else if (v.getD 0 M.zero).kind = 1 then [102, 97, 108, 115, 101]
    else if (v.getD 0 M.zero).kind = 2 then [116, 114, 117, 101]
    else if (v.getD 0 M.zero).kind = 3 then Lib.itoa (v.getD 0 M.zero).num
    else if (v.getD 0 M.zero).kind = 4 then quote (v.getD 0 M.zero).text
    else if (v.getD 0 M.zero).kind = 5 then [91] ++ partsK (encL f) false (keysAt v 0) (subs v 0) (M.arity v 0) ++ [93]
    else [123] ++ partsK (encL f) true (keysAt v 0) (subs v 0) (M.arity v 0) ++ [125]
theorem encL_part (f : Nat) {v : List M.Cl} (hv : M.valueFault v = 0) {a : Nat} (ha : a < v.length) : encL (f + 1) (part v a) =
    if (v.getD a M.zero).kind = 0 then [110, 117, 108, 108]
    else if (v.getD a M.zero).kind = 1 then [102, 97, 108, 115, 101]
    else if (v.getD a M.zero).kind = 2 then [116, 114, 117, 101]
    else if (v.getD a M.zero).kind = 3 then Lib.itoa (v.getD a M.zero).num
    else if (v.getD a M.zero).kind = 4 then quote (v.getD a M.zero).text
    else if (v.getD a M.zero).kind = 5 then [91] ++ partsK (encL f) false (keysAt v a) (subs v a) (M.arity v a) ++ [93]
    else [123] ++ partsK (encL f) true (keysAt v a) (subs v a) (M.arity v a) ++ [125] := by
  rw [encL, part_zero hv ha, (subs_part hv ha).1, (subs_part hv ha).2, part_arity hv ha]
theorem places_getD (v : List M.Cl) (a k : Nat) (hk : k < M.arity v a) : (M.places v a)[k]? = some (M.iter v k (a + 1)) := by
  simp [M.places, hk]
theorem subs_getD (v : List M.Cl) (a k : Nat) (hk : k < M.arity v a) : (subs v a).getD k [] = part v (M.iter v k (a + 1)) := by
  rw [List.getD_eq_getElem?_getD, subs, List.getElem?_map, places_getD v a k hk]; rfl
theorem keysAt_getD (v : List M.Cl) (a k : Nat) (hk : k < M.arity v a) : (keysAt v a).getD k ByteArray.empty = (v.getD (M.iter v k (a + 1)) M.zero).key := by
  rw [List.getD_eq_getElem?_getD, keysAt, List.getElem?_map, places_getD v a k hk]; rfl
theorem code_text {c : M.Cl} (h : M.cellCode c = 0) : c.text.size ≤ 60 ∧ c.key.size ≤ 60 ∧ -1000000000000000 ≤ c.num ∧ c.num ≤ 1000000000000000 ∧ 0 ≤ c.kind ∧ c.kind ≤ 6 := by
  unfold M.cellCode at h
  split at h
  · cases h
  split at h
  · cases h
  split at h
  · cases h
  split at h
  · rename_i h1 h2 h3 h4
    obtain ⟨t1, t2⟩ := h4
    unfold M.textOk at t1 t2
    simp only [Bool.and_eq_true, decide_eq_true_eq] at t1 t2
    exact ⟨t1.1, t2.1, by omega, by omega, by omega, by omega⟩
  · cases h
theorem ahead_length (obj : Bool) (ks : List ByteArray) (k : Nat) (hk : (ks.getD k ByteArray.empty).size ≤ 60) : (ahead obj ks k).length ≤ 130 := by
  have h := quote_length (ks.getD k ByteArray.empty)
  unfold ahead
  generalize ks.getD k ByteArray.empty = q at *
  rw [List.length_append]
  split <;> split <;> simp only [List.length_append, List.length_cons, List.length_nil] <;> omega
/-- The texts of the first parts, if each part has at most 400 bytes a cell. -/
theorem parts_length (f : Nat) (ih : ∀ (v : List M.Cl), M.valueFault v = 0 → ∀ a, a < v.length → (part v a).length ≤ f → (encL f (part v a)).length + 140 ≤ 400 * (M.endOf v a - a)) {v : List M.Cl} (hv : M.valueFault v = 0) {a : Nat} (ha : a < v.length) (hl : (part v a).length ≤ f + 1) (obj : Bool) (k : Nat) :
    k ≤ M.arity v a → (partsK (encL f) obj (keysAt v a) (subs v a) k).length ≤ 400 * (M.iter v k (a + 1) - (a + 1)) ∧ a + 1 + k ≤ M.iter v k (a + 1) := by
  have hg := end_gt hv ha
  have hpl := part_len hv ha
  obtain ⟨hin, hend, hle, har⟩ := M.places_in hv a ha
  induction k with
  | zero => intro _; exact ⟨by simp [partsK], by simp [M.iter]⟩
  | succ k ihk =>
    intro hk
    obtain ⟨h1, h2⟩ := ihk (by omega)
    have hp := hin k (by omega)
    have hpv : M.iter v k (a + 1) < v.length := by omega
    have hgp := end_gt hv hpv
    have hnx := M.iter_next v k (a + 1)
    have hlp := part_len hv hpv
    have hi : M.endOf v (M.iter v k (a + 1)) ≤ M.endOf v a := by
      rw [← hnx]
      by_cases e : k + 1 = M.arity v a
      · rw [e, hend]; exact Nat.le_refl _
      · exact Nat.le_of_lt (hin (k + 1) (by omega)).2
    have hr := ih v hv (M.iter v k (a + 1)) hpv (by omega)
    have hky : ((keysAt v a).getD k ByteArray.empty).size ≤ 60 := by rw [keysAt_getD v a k (by omega)]; exact (code_text (code_at hv _ hpv)).2.1
    have ha' := ahead_length obj (keysAt v a) k hky
    rw [partsK, List.length_append, List.length_append, subs_getD v a k (by omega), hnx]
    exact ⟨by omega, by omega⟩
/-- At most 400 bytes a cell. -/
theorem encL_length (f : Nat) : ∀ (v : List M.Cl), M.valueFault v = 0 → ∀ a, a < v.length → (part v a).length ≤ f → (encL f (part v a)).length + 140 ≤ 400 * (M.endOf v a - a) := by
  induction f with
  | zero => intro v hv a ha h0; have := part_len hv ha; have := (end_gt hv ha).1; omega
  | succ f ih =>
    intro v hv a ha hl
    have hg := end_gt hv ha
    obtain ⟨hin, hend, hle, har⟩ := M.places_in hv a ha
    have hcode := code_text (code_at hv a ha)
    have hq := quote_length (v.getD a M.zero).text
    have hi := Lib.itoa_length_le (v.getD a M.zero).num (by omega) (by omega)
    have h5 := parts_length f ih hv ha hl false _ (Nat.le_refl _)
    have h6 := parts_length f ih hv ha hl true _ (Nat.le_refl _)
    rw [encL_part f hv ha]
    rw [hend] at h5 h6
    repeat' split
    all_goals (try simp only [List.length_append, List.length_cons, List.length_nil])
    all_goals omega
theorem parts_bd (f : Nat) {v : List M.Cl} (hv : M.valueFault v = 0) {a : Nat} (ha : a < v.length) (hl : (part v a).length ≤ f + 1) (obj : Bool) (k : Nat) (hk : k ≤ M.arity v a) : (partsK (encL f) obj (keysAt v a) (subs v a) k).length ≤ 80000 := by
  have h := parts_length f (encL_length f) hv ha hl obj k hk
  obtain ⟨hin, hend, hle, har⟩ := M.places_in hv a ha
  have h200 := (M.fault_zero hv).2.1
  have : M.iter v k (a + 1) ≤ M.endOf v a := by
    by_cases e : k = M.arity v a
    · rw [e, hend]; exact Nat.le_refl _
    · exact Nat.le_of_lt (hin k (by omega)).2
  omega
end J

end Go.Proofs.YtlbmpldknfcfhaaDoor
