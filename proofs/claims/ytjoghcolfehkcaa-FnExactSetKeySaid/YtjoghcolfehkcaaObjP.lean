/-
  An object of members: what both ObjectValue answer, as a plain function of keys and lists.
-/
import Derived.Test.YtjoghcolfehkcaaSmI
import Derived.Test.YtjoghcolfehkcaaArrS
namespace Go.Proofs.Ytjoghcolfehkcaa
open Go.RowKit
set_option linter.unusedVariables false

/-- The members at the places L, the first k of them. -/
def memK (ks : List ByteArray) (ps : List (List M.Cl)) (L : List Nat) (k : Nat) : List M.Cl := ((L.take k).map fun p => setKey (ps.getD p []) (ks.getD p ByteArray.empty)).flatten
def objK (ks : List ByteArray) (ps : List (List M.Cl)) (L : List Nat) (k : Nat) : List M.Cl := headCl 6 L.length :: memK ks ps L k
def objV (ks : List ByteArray) (ps : List (List M.Cl)) : List M.Cl := objK ks ps (St.stand ks ks.length) (St.stand ks ks.length).length
theorem memK_succ (ks : List ByteArray) (ps : List (List M.Cl)) (L : List Nat) (k : Nat) (hk : k < L.length) : memK ks ps L (k + 1) = memK ks ps L k ++ setKey (ps.getD (L.getD k 0) []) (ks.getD (L.getD k 0) ByteArray.empty) := by
  unfold memK
  rw [List.take_add_one, List.getElem?_eq_getElem hk, List.map_append, List.flatten_append, List.getD_eq_getElem?_getD (l := L), List.getElem?_eq_getElem hk]
  simp only [Option.toList_some, Option.getD_some, List.map_cons, List.map_nil, List.flatten_cons, List.flatten_nil, List.append_nil]
theorem objK_succ (ks : List ByteArray) (ps : List (List M.Cl)) (L : List Nat) (k : Nat) (hk : k < L.length) : objK ks ps L (k + 1) = objK ks ps L k ++ setKey (ps.getD (L.getD k 0) []) (ks.getD (L.getD k 0) ByteArray.empty) := by
  unfold objK; rw [memK_succ ks ps L k hk, List.cons_append]
theorem memK_length (ks : List ByteArray) (ps : List (List M.Cl)) (L : List Nat) (h : ∀ p ∈ L, (ps.getD p []).length ≤ 200) (k : Nat) (hk : k ≤ L.length) : (memK ks ps L k).length ≤ 200 * k := by
  induction k with
  | zero => simp [memK]
  | succ k ih =>
    have h1 := ih (by omega)
    have h2 := h (L.getD k 0) (by rw [List.getD_eq_getElem?_getD, List.getElem?_eq_getElem (by omega)]; exact List.getElem_mem _)
    rw [memK_succ ks ps L k (by omega), List.length_append, setKey_length]
    omega
theorem objK_length (ks : List ByteArray) (ps : List (List M.Cl)) (L : List Nat) (h : ∀ p ∈ L, (ps.getD p []).length ≤ 200) (k : Nat) (hk : k ≤ L.length) : (objK ks ps L k).length ≤ 200 * k + 1 := by
  have := memK_length ks ps L h k hk
  unfold objK
  rw [List.length_cons]; omega
theorem setKey_ok {l : List M.Cl} {key : ByteArray} (h : ∀ c ∈ l, c.ok) (hk : key.size ≤ 9223372036854775807) : ∀ c ∈ setKey l key, c.ok := by
  cases l with
  | nil => intro c hc; simp [setKey] at hc
  | cons d r =>
    intro c hc
    simp only [setKey, List.mem_cons] at hc
    rcases hc with rfl | hc
    · have := h d (by simp); exact ⟨this.1, this.2.1, this.2.2.1, this.2.2.2.1, hk⟩
    · exact h c (List.mem_cons_of_mem _ hc)
theorem objK_ok (ks : List ByteArray) (ps : List (List M.Cl)) (L : List Nat) (hn : L.length ≤ 4096) (h : ∀ p ∈ L, ∀ c ∈ ps.getD p [], c.ok) (hk : ∀ p ∈ L, (ks.getD p ByteArray.empty).size ≤ 9223372036854775807) (k : Nat) (hkl : k ≤ L.length) : ∀ c ∈ objK ks ps L k, c.ok := by
  induction k with
  | zero =>
    intro c hc
    simp only [objK, memK, List.take_zero, List.map_nil, List.flatten_nil, List.mem_cons, List.not_mem_nil, or_false] at hc
    subst hc
    unfold M.Cl.ok headCl
    refine ⟨?_, ?_, ?_, ?_, ?_⟩ <;> simp <;> omega
  | succ k ih =>
    have hm : L.getD k 0 ∈ L := by rw [List.getD_eq_getElem?_getD, List.getElem?_eq_getElem (by omega)]; exact List.getElem_mem _
    rw [objK_succ ks ps L k (by omega)]
    intro c hc
    rcases List.mem_append.1 hc with hc | hc
    · exact ih (by omega) c hc
    · exact setKey_ok (h _ hm) (hk _ hm) c hc

def allText : List ByteArray → Bool
  | [] => true
  | s :: r => M.textOk s && allText r
theorem allText_hit (ss : List ByteArray) (k : Nat) (hk : k < ss.length) (h : M.textOk (ss.getD k ByteArray.empty) = false) : allText ss = false := by
  induction ss generalizing k with
  | nil => simp at hk
  | cons s r ih =>
    unfold allText
    cases k with
    | zero => simp only [List.getD_cons_zero] at h; rw [h]; rfl
    | succ k => simp only [List.getD_cons_succ] at h; rw [ih k (by simpa using hk) h, Bool.and_false]
theorem allText_all (ss : List ByteArray) (h : ∀ k, k < ss.length → M.textOk (ss.getD k ByteArray.empty) = true) : allText ss = true := by
  induction ss with
  | nil => rfl
  | cons s r ih =>
    unfold allText
    have h0 := h 0 (by simp)
    simp only [List.getD_cons_zero] at h0
    rw [h0, ih (fun k hk => by have := h (k + 1) (by simpa using hk); simpa only [List.getD_cons_succ] using this)]
    rfl
def objOut (ks : List ByteArray) (ps : List (List M.Cl)) : Int × List M.Cl :=
  if 200 < ks.length ∨ ks.length ≠ ps.length then (2, []) else if allText ks = false then (5, []) else if firstBad ps = 0 then told (objV ks ps) else (firstBad ps, [])
theorem obj_many {ks : List ByteArray} {ps : List (List M.Cl)} (h : 200 < ks.length ∨ ks.length ≠ ps.length) : objOut ks ps = (2, []) := if_pos h
theorem obj_text {ks : List ByteArray} {ps : List (List M.Cl)} (h : ¬ (200 < ks.length ∨ ks.length ≠ ps.length)) (ht : allText ks = false) : objOut ks ps = (5, []) := by unfold objOut; rw [if_neg h, if_pos ht]
theorem obj_bad {ks : List ByteArray} {ps : List (List M.Cl)} (h : ¬ (200 < ks.length ∨ ks.length ≠ ps.length)) (ht : allText ks = true) (hz : firstBad ps ≠ 0) : objOut ks ps = (firstBad ps, []) := by unfold objOut; rw [if_neg h, if_neg (by simp [ht]), if_neg hz]
theorem obj_ok {ks : List ByteArray} {ps : List (List M.Cl)} (h : ¬ (200 < ks.length ∨ ks.length ≠ ps.length)) (ht : allText ks = true) (hz : firstBad ps = 0) : objOut ks ps = told (objV ks ps) := by unfold objOut; rw [if_neg h, if_neg (by simp [ht]), if_pos hz]
end Go.Proofs.Ytjoghcolfehkcaa
