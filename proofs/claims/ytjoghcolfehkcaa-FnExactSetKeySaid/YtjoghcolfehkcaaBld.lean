/-
  A list of parts to which one more is appended; an answer whose slice was there already.
-/
import Derived.Test.YtjoghcolfehkcaaMade
import Derived.Test.YtjoghcolfehkcaaLvA
import Derived.Test.YtjoghcolfehkcaaOneC
namespace Go.Proofs.Ytjoghcolfehkcaa
open Go.RowKit
set_option linter.unusedVariables false

theorem SS.snoc {w2 w3 : World} {o : Obj} {B k : Nat} {s v' sp : Value} {ps : List (List M.Cl)} {p : List M.Cl} {ss : List Value} (hk : ps.length = k) (hl : ss.length = ps.length) (hown : w2.ownsRow B 24 1 s ps.length ss) (hres : ∀ i, i < ps.length → Res w2 B (ss.getD i (.slice none 0 0)) (ps.getD i [])) (hp : Res w2 B sp p) (hg : (w2.alloc o).grownBy w3 s.ownBlock) (ho : w3.ownsRow B 24 1 v' (k + 1) (ss ++ [sp])) : SS w3 B v' (ps ++ [p]) := by
  subst hk
  have keep : ∀ (r : Value) (l : List M.Cl), Res w2 B r l → Res w3 B r l := fun r l h => grown_res (hown.alloc o) hg (h.alloc o) (by decide)
  refine ⟨ss ++ [sp], by simp [hl], by simpa using ho, fun i hi => ?_⟩
  rw [List.length_append] at hi
  simp only [List.length_cons, List.length_nil] at hi
  by_cases e : i < ps.length
  · rw [List.getD_eq_getElem?_getD, List.getElem?_append_left (by omega), ← List.getD_eq_getElem?_getD, List.getD_eq_getElem?_getD (l := ps ++ [p]), List.getElem?_append_left e, ← List.getD_eq_getElem?_getD]
    exact keep _ _ (hres i e)
  · obtain rfl : i = ps.length := by omega
    rw [List.getD_eq_getElem?_getD, List.getElem?_append_right (by omega), hl, Nat.sub_self, List.getD_eq_getElem?_getD (l := ps ++ [p]), List.getElem?_append_right (Nat.le_refl _), Nat.sub_self]
    exact keep _ _ hp
theorem SS.nil (w : World) (B : Nat) : SS w B (.slice none 0 0) [] := ⟨[], rfl, World.ownsRow_nil _ _ _ _, fun i hi => by simp at hi⟩
theorem SS.empty (w : World) (B b : Nat) (hb : b = w.heap.size) (hB : B ≤ b) : SS (w.alloc (.cells #[] 24)) B (.slice (some ⟨b, 0, none⟩) 0 0) [] := by
  subst hb
  exact ⟨[], rfl, ⟨rfl, .inr ⟨w.heap.size, 0, #[], rfl, hB, heap_alloc_new _ _, Nat.le_refl _, by simp [maxLen], rfl, rfl⟩⟩, fun i hi => by simp at hi⟩
/-- The slice that is stored lies behind the answer's own cell. -/
theorem Ans.storeC {w w2 : World} {C : Nat} {s : Value} {l : List M.Cl} (hr : Res w2 C s l) (hC : w.heap.size < C) (B2 : Below w.heap.size w w2) (x y : Value) :
    Res ((w2.setCell ⟨w.heap.size, 0, none⟩ x).setCell ⟨w.heap.size, 1, none⟩ y) w.heap.size s l ∧ Below w.heap.size w ((w2.setCell ⟨w.heap.size, 0, none⟩ x).setCell ⟨w.heap.size, 1, none⟩ y) := by
  have hne : ∀ b, s.ownBlock = some b → b ≠ w.heap.size := fun b h => by have := hr.base b h; omega
  exact ⟨((hr.mono (by omega)).setOther _ _ hne).setOther _ _ hne, (B2.setCell (Nat.le_refl _) _).setCell (Nat.le_refl _) _⟩
theorem field_value (c : Int) (a : Option Addr) (n k : Nat) (w : World) : (Instr.field 26 (.agg #[.int .i64 c, .slice a n k]) 1).run Try.prog w = .ok (.slice a n k) w := by kernel_rfl
theorem one_plain' (a : Option Addr) (n k : Nat) : ∀ u ∈ ([Value.slice a n k] : List Value), u.oneCell' = true := by
  intro u hu; simp only [List.mem_cons, List.not_mem_nil, or_false] at hu; subst hu; rfl
theorem arrV_ne (ps : List (List M.Cl)) : arrV ps ≠ [] := by unfold arrV arrK; simp
theorem arrV_le {ps : List (List M.Cl)} (hn : ps.length ≤ 4096) (hv : ∀ j, j < ps.length → M.valueFault (ps.getD j []) = 0) : (arrV ps).length ≤ 1048576 := by
  have hal := arrK_length ps ps.length
  have hts := tot_small ps ps.length (Nat.le_refl _) (fun j hj => (fault_len (hv j hj)).2)
  unfold arrV; omega
theorem valid_ne {ps : List (List M.Cl)} (hv : ∀ j, j < ps.length → M.valueFault (ps.getD j []) = 0) : ∀ j, j < ps.length → ps.getD j [] ≠ [] := by
  intro j hj e
  have := (fault_len (hv j hj)).1
  rw [e] at this
  simp at this

/-- A number as a value. -/
def numCl (n : Int) : M.Cl := ⟨3, n, ByteArray.empty, ByteArray.empty, 0⟩
def strCl (s : ByteArray) : M.Cl := ⟨4, 0, s, ByteArray.empty, 0⟩
theorem code_num {n : Int} (h0 : -1000000000000000 ≤ n) (h1 : n ≤ 1000000000000000) : M.cellCode (numCl n) = 0 := by
  unfold numCl M.cellCode
  simp only
  rw [if_neg (by omega), if_neg, if_neg (by omega), if_pos ⟨by decide, by decide⟩]
  intro h
  rcases h with h | h | h
  · exact h.2 rfl
  · exact h.1 empty_toList
  · exact h.1 rfl
theorem code_str {s : ByteArray} (h : M.textOk s = true) : M.cellCode (strCl s) = 0 := by
  unfold strCl M.cellCode
  simp only
  rw [if_neg (by omega), if_neg, if_neg (by omega), if_pos ⟨h, by decide⟩]
  intro h
  rcases h with h | h | h
  · exact h.1 rfl
  · exact h.2 rfl
  · exact h.1 rfl
theorem one_valid {c : M.Cl} (hc : M.cellCode c = 0) (hk : c.key.toList = []) (hn : c.n = 0) : M.valueFault [c] = 0 ∧ M.walk [c] 1 0 = some (1, 1) := by
  have hw : M.walk [c] 1 0 = some (1, 1) := by simp [M.walk, M.kids, hn]
  refine ⟨?_, hw⟩
  unfold M.valueFault
  rw [if_neg (by simp), if_neg (by simp [M.firstCode, hc])]
  simp only [List.length_cons, List.length_nil, Nat.zero_add]
  rw [hw]
  simp only
  rw [if_neg (by simp [hk]), if_neg (by omega)]
theorem one_laid {c : M.Cl} (hc : M.cellCode c = 0) (hk : c.key.toList = []) (hn : c.n = 0) : Laid [c] := laid_of (d := 1) (one_valid hc hk hn).1 (one_valid hc hk hn).2 (by omega)
/-- Lists of parts of one cell each. -/
theorem tot_ones {ps : List (List M.Cl)} (h : ∀ j, j < ps.length → (ps.getD j []).length = 1) (k : Nat) (hk : k ≤ ps.length) : tot ps k = k := by
  induction k with
  | zero => rw [tot_zero]
  | succ k ih => rw [tot_succ ps k (by omega), ih (by omega), h k (by omega)]

end Go.Proofs.Ytjoghcolfehkcaa
