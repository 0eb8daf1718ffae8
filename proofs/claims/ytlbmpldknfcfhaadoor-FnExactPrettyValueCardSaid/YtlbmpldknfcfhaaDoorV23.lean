/-
  A value printed by an indent, plainly. No word of the program is used here.
-/
import Derived.Test.YtlbmpldknfcfhaaDoorV17
import Derived.Test.YtlbmpldknfcfhaaDoorV22
namespace Go.Proofs.YtlbmpldknfcfhaaDoor
open Go.RowKit
set_option linter.unusedVariables false
set_option linter.unusedSimpArgs false
namespace Pr
/-- A line feed, and blanks. -/
def lineL (n : Nat) : List UInt8 := 10 :: List.replicate n 32
/-- What stands ahead of the k-th part. -/
def ahead (I dp : Nat) (obj : Bool) (ks : List ByteArray) (k : Nat) : List UInt8 := (if k = 0 then [] else [44]) ++ (lineL (I * (dp + 1)) ++ (if obj = true then J.quote (ks.getD k ByteArray.empty) ++ [58, 32] else []))
def partsK (g : List M.Cl → List UInt8) (I dp : Nat) (obj : Bool) (ks : List ByteArray) (ps : List (List M.Cl)) : Nat → List UInt8
  | 0 => []
  | k + 1 => partsK g I dp obj ks ps k ++ (ahead I dp obj ks k ++ g (ps.getD k []))
def opens (obj : Bool) : List UInt8 := if obj = true then [123] else [91]
def shuts (obj : Bool) : List UInt8 := if obj = true then [125] else [93]
/-- The print of a value at a depth, by fuel. -/
def pret (I : Nat) : Nat → Nat → List M.Cl → List UInt8
  | 0, _, _ => []
  | f + 1, dp, v => if (v.getD 0 M.zero).n = 0 then J.encL 200 v else
      opens (decide ((v.getD 0 M.zero).kind = 6)) ++ partsK (pret I f (dp + 1)) I dp (decide ((v.getD 0 M.zero).kind = 6)) (keysAt v 0) (subs v 0) (M.arity v 0) ++ lineL (I * dp) ++ shuts (decide ((v.getD 0 M.zero).kind = 6))
theorem pret_leaf (I f dp : Nat) {v : List M.Cl} (h : (v.getD 0 M.zero).n = 0) : pret I (f + 1) dp v = J.encL 200 v := by rw [pret, if_pos h]
theorem pret_more (I f dp : Nat) {v : List M.Cl} (h : ¬ (v.getD 0 M.zero).n = 0) : pret I (f + 1) dp v = opens (decide ((v.getD 0 M.zero).kind = 6)) ++ partsK (pret I f (dp + 1)) I dp (decide ((v.getD 0 M.zero).kind = 6)) (keysAt v 0) (subs v 0) (M.arity v 0) ++ lineL (I * dp) ++ shuts (decide ((v.getD 0 M.zero).kind = 6)) := by rw [pret, if_neg h]
theorem pret_part_leaf (I f dp : Nat) {v : List M.Cl} (hv : M.valueFault v = 0) {a : Nat} (ha : a < v.length) (h : (v.getD a M.zero).n = 0) : pret I (f + 1) dp (part v a) = J.encL 200 (part v a) := pret_leaf I f dp (by rw [part_zero hv ha]; exact h)
theorem pret_part_more (I f dp : Nat) {v : List M.Cl} (hv : M.valueFault v = 0) {a : Nat} (ha : a < v.length) (h : ¬ (v.getD a M.zero).n = 0) : pret I (f + 1) dp (part v a) = opens (decide ((v.getD a M.zero).kind = 6)) ++ partsK (pret I f (dp + 1)) I dp (decide ((v.getD a M.zero).kind = 6)) (keysAt v a) (subs v a) (M.arity v a) ++ lineL (I * dp) ++ shuts (decide ((v.getD a M.zero).kind = 6)) := by
  rw [pret_more I f dp (by rw [part_zero hv ha]; exact h), part_zero hv ha, (subs_part hv ha).1, (subs_part hv ha).2, part_arity hv ha]
theorem lineL_length (n : Nat) : (lineL n).length = n + 1 := by simp [lineL]
theorem lineL_succ (n : Nat) : lineL (n + 1) = lineL n ++ [32] := by simp [lineL, List.replicate_succ']
theorem mul_bd {I dp : Nat} (hI : I ≤ 8) (hd : dp ≤ 201) : I * dp ≤ 1608 := Nat.le_trans (Nat.mul_le_mul hI hd) (by decide)
theorem ahead_length {I dp : Nat} (hI : I ≤ 8) (hd : dp ≤ 200) (obj : Bool) (ks : List ByteArray) (k : Nat) (hk : (ks.getD k ByteArray.empty).size ≤ 60) : (ahead I dp obj ks k).length ≤ 1750 := by
  have h := J.quote_length (ks.getD k ByteArray.empty)
  have hm := mul_bd hI (show dp + 1 ≤ 201 by omega)
  unfold ahead
  generalize ks.getD k ByteArray.empty = q at *
  rw [List.length_append, List.length_append, lineL_length]
  split <;> split <;> simp only [List.length_append, List.length_cons, List.length_nil] <;> omega
theorem parts_length {I : Nat} (hI : I ≤ 8) (f : Nat) (ih : ∀ (v : List M.Cl) (dp : Nat), M.valueFault v = 0 → ∀ a, a < v.length → (part v a).length ≤ f → dp + (M.endOf v a - a) ≤ 201 → (pret I f dp (part v a)).length + 2000 ≤ 6000 * (M.endOf v a - a)) {v : List M.Cl} (hv : M.valueFault v = 0) {a dp : Nat} (ha : a < v.length) (hl : (part v a).length ≤ f + 1) (hd : dp + (M.endOf v a - a) ≤ 201) (obj : Bool) (k : Nat) :
    k ≤ M.arity v a → (partsK (pret I f (dp + 1)) I dp obj (keysAt v a) (subs v a) k).length ≤ 6000 * (M.iter v k (a + 1) - (a + 1)) ∧ a + 1 + k ≤ M.iter v k (a + 1) ∧ M.iter v k (a + 1) ≤ M.endOf v a := by
  have hg := end_gt hv ha
  have hpl := part_len hv ha
  obtain ⟨hin, hend, hle, har⟩ := M.places_in hv a ha
  induction k with
  | zero => intro _; exact ⟨by simp [partsK], by simp [M.iter], by show a + 1 ≤ _; omega⟩
  | succ k ihk =>
    intro hk
    obtain ⟨h1, h2, h3⟩ := ihk (by omega)
    have hp := hin k (by omega)
    have hpv : M.iter v k (a + 1) < v.length := by omega
    have hgp := end_gt hv hpv
    have hnx := M.iter_next v k (a + 1)
    have hlp := part_len hv hpv
    have hi : M.endOf v (M.iter v k (a + 1)) ≤ M.endOf v a := by
      rw [← hnx]
      by_cases e : k + 1 = M.arity v a
      · rw [e, hend]; exact Nat.le_refl _
      · exact Nat.le_of_lt (hin (k + 1) (by omega)).2
    have hr := ih v (dp + 1) hv (M.iter v k (a + 1)) hpv (by omega) (by omega)
    have hky : ((keysAt v a).getD k ByteArray.empty).size ≤ 60 := by rw [J.keysAt_getD v a k (by omega)]; exact (J.code_text (code_at hv _ hpv)).2.1
    have ha' := ahead_length hI (show dp ≤ 200 by omega) obj (keysAt v a) k hky
    rw [partsK, List.length_append, List.length_append, J.subs_getD v a k (by omega), hnx]
    exact ⟨by omega, by omega, by omega⟩
theorem opens_length (obj : Bool) : (opens obj).length = 1 := by cases obj <;> rfl
theorem shuts_length (obj : Bool) : (shuts obj).length = 1 := by cases obj <;> rfl
/-- At most 6000 bytes a cell. -/
theorem pret_length {I : Nat} (hI : I ≤ 8) (f : Nat) : ∀ (v : List M.Cl) (dp : Nat), M.valueFault v = 0 → ∀ a, a < v.length → (part v a).length ≤ f → dp + (M.endOf v a - a) ≤ 201 → (pret I f dp (part v a)).length + 2000 ≤ 6000 * (M.endOf v a - a) := by
  induction f with
  | zero => intro v dp hv a ha h0; have := part_len hv ha; have := (end_gt hv ha).1; omega
  | succ f ih =>
    intro v dp hv a ha hl hd
    have hg := end_gt hv ha
    have hpl := part_len hv ha
    obtain ⟨hin, hend, hle, har⟩ := M.places_in hv a ha
    have hen := J.encL_length 200 v hv a ha (by have := (M.fault_zero hv).2.1; omega)
    by_cases h0 : (v.getD a M.zero).n = 0
    · rw [pret_part_leaf I f dp hv ha h0]
      have : M.endOf v a - a = 1 := by
        have hz : M.arity v a = 0 := by unfold M.arity; rw [h0]; rfl
        rw [hz] at hend
        have : M.iter v 0 (a + 1) = a + 1 := rfl
        omega
      omega
    · rw [pret_part_more I f dp hv ha h0]
      have h5 := parts_length hI f ih hv ha hl hd (decide ((v.getD a M.zero).kind = 6)) _ (Nat.le_refl _)
      have hm := mul_bd hI (show dp ≤ 201 by omega)
      rw [List.length_append, List.length_append, List.length_append, opens_length, shuts_length, lineL_length]
      omega
theorem parts_bd {I : Nat} (hI : I ≤ 8) (f : Nat) {v : List M.Cl} (hv : M.valueFault v = 0) {a dp : Nat} (ha : a < v.length) (hl : (part v a).length ≤ f + 1) (hd : dp + (M.endOf v a - a) ≤ 201) (obj : Bool) (k : Nat) (hk : k ≤ M.arity v a) : (partsK (pret I f (dp + 1)) I dp obj (keysAt v a) (subs v a) k).length ≤ 1200000 := by
  have h := parts_length hI f (pret_length hI f) hv ha hl hd obj k hk
  have := (end_gt hv ha).2
  have h200 := (M.fault_zero hv).2.1
  omega
theorem pret_bd {I : Nat} (hI : I ≤ 8) (f : Nat) {v : List M.Cl} (hv : M.valueFault v = 0) {a dp : Nat} (ha : a < v.length) (hl : (part v a).length ≤ f) (hd : dp + (M.endOf v a - a) ≤ 201) : (pret I f dp (part v a)).length ≤ 1200000 := by
  have h := pret_length hI f v dp hv a ha hl hd
  have := (end_gt hv ha).2
  have h200 := (M.fault_zero hv).2.1
  omega
theorem n_ge {v : List M.Cl} (hv : M.valueFault v = 0) {a : Nat} (ha : a < v.length) : 0 ≤ (v.getD a M.zero).n := by
  have hc := M.first_zero (M.fault_zero hv).2.2.1 _ (getD_mem v a ha)
  unfold M.cellCode at hc
  split at hc
  · cases hc
  split at hc
  · cases hc
  split at hc
  · cases hc
  rename_i h3
  omega
/-- What PrettyValue tells; SizeText tells how many bytes that has. -/
def prettyOut (v : List M.Cl) (i : Int) : Int × ByteArray := if M.valueFault v ≠ 0 then (M.valueFault v, ByteArray.empty) else if i < 0 ∨ 8 < i then (3, ByteArray.empty) else if 60000 < (pret i.toNat 200 0 v).length then (2, ByteArray.empty) else (0, J.bytes (pret i.toNat 200 0 v))
theorem pretty_bad {v : List M.Cl} {i : Int} (h : M.valueFault v ≠ 0) : prettyOut v i = (M.valueFault v, ByteArray.empty) := if_pos h
theorem pretty_range {v : List M.Cl} {i : Int} (h : M.valueFault v = 0) (hi : i < 0 ∨ 8 < i) : prettyOut v i = (3, ByteArray.empty) := by unfold prettyOut; rw [if_neg (by simp [h]), if_pos hi]
theorem pretty_many {v : List M.Cl} {I : Nat} (h : M.valueFault v = 0) (hi : I ≤ 8) (hl : 60000 < (pret I 200 0 v).length) : prettyOut v (I : Int) = (2, ByteArray.empty) := by unfold prettyOut; rw [if_neg (by simp [h]), if_neg (by omega), Int.toNat_natCast, if_pos hl]
theorem pretty_ok {v : List M.Cl} {I : Nat} (h : M.valueFault v = 0) (hi : I ≤ 8) (hl : ¬ 60000 < (pret I 200 0 v).length) : prettyOut v (I : Int) = (0, J.bytes (pret I 200 0 v)) := by unfold prettyOut; rw [if_neg (by simp [h]), if_neg (by omega), Int.toNat_natCast, if_neg hl]
theorem whole_bd {v : List M.Cl} (hv : M.valueFault v = 0) {I : Nat} (hI : I ≤ 8) : (pret I 200 0 v).length ≤ 1200000 := by
  have hl := M.fault_zero hv
  have h := pret_bd hI 200 hv (a := 0) (dp := 0) (by have := hl.1; omega) (by have := part_len hv (show 0 < v.length by have := hl.1; omega); have := (end_gt hv (show 0 < v.length by have := hl.1; omega)).2; have := hl.2.1; omega) (by have := (end_gt hv (show 0 < v.length by have := hl.1; omega)).2; have := hl.2.1; omega)
  have e : part v 0 = v := by
    unfold part
    have h2 := end_whole hv
    rw [h2]
    have h3 : cut v 0 v.length = v := by unfold cut; simp
    rw [h3]; exact setKey_none hv
  rwa [e] at h
end Pr
end Go.Proofs.YtlbmpldknfcfhaaDoor
