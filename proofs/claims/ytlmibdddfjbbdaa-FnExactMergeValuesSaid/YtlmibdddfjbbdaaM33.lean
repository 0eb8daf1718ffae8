/-
  Merges, plainly. No word of the program is used here.
-/
import Derived.Test.YtlmibdddfjbbdaaM18
import Derived.Test.YtlmibdddfjbbdaaM26
import Derived.Test.YtlmibdddfjbbdaaM32
namespace Go.Proofs.Ytlmibdddfjbbdaa
open Go.RowKit
set_option linter.unusedVariables false
set_option linter.unusedSimpArgs false
namespace Mg
/-- The key of the j-th member. -/
def keyAt (v : List M.Cl) (j : Nat) : ByteArray := (v.getD (M.iter v j 1) M.zero).key
/-- The member of a key; no cells, if there is none. -/
def memV (v : List M.Cl) (key : ByteArray) : List M.Cl := match (List.range (M.arity v 0)).find? (fun j => (keyAt v j).toList == key.toList) with
  | some j => part v (M.iter v j 1)
  | none => []
theorem memV_hit {v : List M.Cl} {key : ByteArray} {k : Nat} (hk : k < M.arity v 0) (h : ∀ j, j < k → ((keyAt v j).toList == key.toList) = false) (hh : ((keyAt v k).toList == key.toList) = true) : memV v key = part v (M.iter v k 1) := by
  unfold memV
  rw [List.find?_range_eq_some.2 ⟨hh, List.mem_range.2 hk, fun j hj => by rw [h j hj]; rfl⟩]
theorem memV_none {v : List M.Cl} {key : ByteArray} (h : ∀ j, j < M.arity v 0 → ((keyAt v j).toList == key.toList) = false) : memV v key = [] := by
  unfold memV
  rw [List.find?_range_eq_none.2 fun j hj => by rw [h j hj]; rfl]
theorem memV_cases (v : List M.Cl) (key : ByteArray) : memV v key = [] ∨ ∃ j, j < M.arity v 0 ∧ (keyAt v j).toList = key.toList ∧ memV v key = part v (M.iter v j 1) := by
  unfold memV
  cases h : (List.range (M.arity v 0)).find? (fun j => (keyAt v j).toList == key.toList) with
  | none => exact .inl rfl
  | some j =>
    obtain ⟨h1, h2, _⟩ := List.find?_range_eq_some.1 h
    exact .inr ⟨j, List.mem_range.1 h2, eq_of_beq h1, rfl⟩
theorem part_lt {v : List M.Cl} (hv : M.valueFault v = 0) {k : Nat} (hk : k < M.arity v 0) : M.iter v k 1 < v.length ∧ M.iter v k 1 + (part v (M.iter v k 1)).length = M.iter v (k + 1) 1 ∧ M.valueFault (part v (M.iter v k 1)) = 0 ∧ 1 ≤ (part v (M.iter v k 1)).length := by
  have hl := (M.fault_zero hv).1
  obtain ⟨h1, h2, h3, _⟩ := M.places_in hv 0 (by omega)
  simp only [Nat.zero_add] at h1
  have h5 := h1 k hk
  have hlt : M.iter v k 1 < v.length := by omega
  have hg := end_gt hv hlt
  have hp := part_len hv hlt
  refine ⟨hlt, ?_, part_valid hv hlt, by omega⟩
  rw [M.iter_next]
  omega
theorem memV_val {v : List M.Cl} (hv : M.valueFault v = 0) (key : ByteArray) : memV v key = [] ∨ (M.valueFault (memV v key) = 0 ∧ 1 ≤ (memV v key).length ∧ (memV v key).length + 1 ≤ v.length) := by
  rcases memV_cases v key with h | ⟨j, hj, _, h⟩
  · exact .inl h
  · obtain ⟨a, b, c, d⟩ := part_lt hv hj
    have hl := (M.fault_zero hv).1
    obtain ⟨h1, h2, h3, _⟩ := M.places_in hv 0 (by omega)
    simp only [Nat.zero_add] at h1 h2 h3
    have h5 := h1 j hj
    have : 1 ≤ M.iter v j 1 := by
      have : ∀ q, q ≤ M.arity v 0 → 1 ≤ M.iter v q 1 := by
        intro q
        induction q with
        | zero => intro _; exact Nat.le_refl _
        | succ q ih => intro hq; have := (part_lt hv (show q < M.arity v 0 by omega)).2.1; have := ih (by omega); omega
      exact this j (by omega)
    have hlast : M.iter v (j + 1) 1 ≤ v.length := by
      have : ∀ q, q ≤ M.arity v 0 → M.iter v q 1 ≤ v.length := by
        intro q hq
        cases q with
        | zero => show 1 ≤ _; omega
        | succ q =>
          have h7 := part_lt hv (show q < M.arity v 0 by omega)
          have h8 := part_len hv h7.1
          have h9 := end_gt hv h7.1
          omega
      exact this _ hj
    rw [h]
    exact .inr ⟨c, d, by omega⟩
/-- Sums. -/
def sumN (x : Nat → Nat) : Nat → Nat
  | 0 => 0
  | n + 1 => sumN x n + x n
theorem sumN_le {x y : Nat → Nat} : ∀ n, (∀ i, i < n → x i ≤ y i) → sumN x n ≤ sumN y n
  | 0, _ => Nat.le_refl _
  | n + 1, h => by have := sumN_le n (fun i hi => h i (by omega)); have := h n (by omega); simp only [sumN]; omega
theorem sumN_add (x y : Nat → Nat) : ∀ n, sumN (fun i => x i + y i) n = sumN x n + sumN y n
  | 0 => rfl
  | n + 1 => by simp only [sumN]; rw [sumN_add x y n]; omega
/-- The cells of the members whose keys are among the first n. -/
def hit (v : List M.Cl) (ks : List ByteArray) (n j : Nat) : Bool := (List.range n).any fun i => (ks.getD i ByteArray.empty).toList == (keyAt v j).toList
def T (v : List M.Cl) (ks : List ByteArray) (n : Nat) : Nat → Nat := sumN fun j => if hit v ks n j = true then (part v (M.iter v j 1)).length else 0
theorem hit_succ (v : List M.Cl) (ks : List ByteArray) (n j : Nat) : hit v ks (n + 1) j = (hit v ks n j || ((ks.getD n ByteArray.empty).toList == (keyAt v j).toList)) := by
  unfold hit; rw [List.range_succ, List.any_append]; simp
theorem T_mono (v : List M.Cl) (ks : List ByteArray) (n m : Nat) : T v ks n m ≤ T v ks (n + 1) m := by
  refine sumN_le m fun j _ => ?_
  rw [hit_succ]
  cases hit v ks n j <;> simp
theorem T_hit (v : List M.Cl) (ks : List ByteArray) (n j0 : Nat) (h1 : hit v ks n j0 = false) (h2 : (keyAt v j0).toList = (ks.getD n ByteArray.empty).toList) : ∀ m, j0 < m → T v ks n m + (part v (M.iter v j0 1)).length ≤ T v ks (n + 1) m
  | 0, h => by omega
  | m + 1, h => by
    by_cases e : j0 = m
    · subst e
      have := T_mono v ks n j0
      unfold T at this ⊢
      simp only [sumN]
      rw [h1, hit_succ, h2]
      simp
      omega
    · have := T_hit v ks n j0 h1 h2 m (by omega)
      have h3 := T_mono v ks n (m + 1)
      unfold T at this h3 ⊢
      simp only [sumN] at h3 ⊢
      have h4 : (if hit v ks n m = true then (part v (M.iter v m 1)).length else 0) ≤ (if hit v ks (n + 1) m = true then (part v (M.iter v m 1)).length else 0) := by
        rw [hit_succ]; cases hit v ks n m <;> simp
      omega
theorem T_le {v : List M.Cl} (hv : M.valueFault v = 0) (ks : List ByteArray) (n : Nat) : ∀ m, m ≤ M.arity v 0 → T v ks n m + 1 ≤ M.iter v m 1
  | 0, _ => Nat.le_refl _
  | m + 1, h => by
    have := T_le hv ks n m (by omega)
    have h2 := (part_lt hv (show m < M.arity v 0 by omega)).2.1
    unfold T at this ⊢
    simp only [sumN]
    split <;> omega
theorem mem_sum {v : List M.Cl} (hv : M.valueFault v = 0) (ks : List ByteArray) (hd : ∀ i j, i < j → j < ks.length → (ks.getD i ByteArray.empty).toList ≠ (ks.getD j ByteArray.empty).toList) : ∀ n, n ≤ ks.length → sumN (fun i => (memV v (ks.getD i ByteArray.empty)).length) n ≤ T v ks n (M.arity v 0)
  | 0, _ => by simp only [sumN]; omega
  | n + 1, h => by
    have ih := mem_sum hv ks hd n (by omega)
    have hm := T_mono v ks n (M.arity v 0)
    simp only [sumN]
    rcases memV_cases v (ks.getD n ByteArray.empty) with e | ⟨j, hj, hk, e⟩
    · rw [e]
      show _ + 0 ≤ _
      omega
    · rw [e]
      have hf : hit v ks n j = false := by
        unfold hit
        rw [List.any_eq_false]
        intro i hi
        have hi := List.mem_range.1 hi
        rw [hk]
        simpa using hd i n hi (by omega)
      have := T_hit v ks n j hf hk _ hj
      omega
theorem mem_total {v : List M.Cl} (hv : M.valueFault v = 0) (ks : List ByteArray) (hd : ∀ i j, i < j → j < ks.length → (ks.getD i ByteArray.empty).toList ≠ (ks.getD j ByteArray.empty).toList) : sumN (fun i => (memV v (ks.getD i ByteArray.empty)).length) ks.length + 1 ≤ v.length := by
  have h1 := mem_sum hv ks hd _ (Nat.le_refl _)
  have h2 := T_le hv ks ks.length _ (Nat.le_refl _)
  have hl := (M.fault_zero hv).1
  have h3 : M.iter v (M.arity v 0) 1 ≤ v.length := by
    cases h : M.arity v 0 with
    | zero => show 1 ≤ _; omega
    | succ q =>
      have h7 := part_lt hv (show q < M.arity v 0 by omega)
      have h8 := part_len hv h7.1
      have h9 := end_gt hv h7.1
      omega
  omega
/-- What is made of a member here and one there. -/
def pairM (rec : List M.Cl → List M.Cl → List M.Cl) (l r : List M.Cl) : List M.Cl := if r = [] then l else if (r.getD 0 M.zero).kind = 0 then [] else rec (if l = [] then [M.zero] else l) r
theorem pair_l {rec : List M.Cl → List M.Cl → List M.Cl} {l r : List M.Cl} (h : r = []) : pairM rec l r = l := if_pos h
theorem pair_0 {rec : List M.Cl → List M.Cl → List M.Cl} {l r : List M.Cl} (h : r ≠ []) (h0 : (r.getD 0 M.zero).kind = 0) : pairM rec l r = [] := by unfold pairM; rw [if_neg h, if_pos h0]
theorem pair_r {rec : List M.Cl → List M.Cl → List M.Cl} {l r : List M.Cl} (h : r ≠ []) (h0 : (r.getD 0 M.zero).kind ≠ 0) (hl : l = []) : pairM rec l r = rec [M.zero] r := by unfold pairM; rw [if_neg h, if_neg h0, if_pos hl]
theorem pair_b {rec : List M.Cl → List M.Cl → List M.Cl} {l r : List M.Cl} (h : r ≠ []) (h0 : (r.getD 0 M.zero).kind ≠ 0) (hl : l ≠ []) : pairM rec l r = rec l r := by unfold pairM; rw [if_neg h, if_neg h0, if_neg hl]
/-- The keys and members that are left of the first n keys. -/
def laidK (g : ByteArray → List M.Cl) (ks : List ByteArray) : Nat → List ByteArray × List (List M.Cl)
  | 0 => ([], [])
  | n + 1 => if g (ks.getD n ByteArray.empty) = [] then laidK g ks n else ((laidK g ks n).1 ++ [ks.getD n ByteArray.empty], (laidK g ks n).2 ++ [g (ks.getD n ByteArray.empty)])
theorem laid_no {g : ByteArray → List M.Cl} {ks : List ByteArray} {n : Nat} (h : g (ks.getD n ByteArray.empty) = []) : laidK g ks (n + 1) = laidK g ks n := by rw [laidK, if_pos h]
theorem laid_yes {g : ByteArray → List M.Cl} {ks : List ByteArray} {n : Nat} (h : g (ks.getD n ByteArray.empty) ≠ []) : laidK g ks (n + 1) = ((laidK g ks n).1 ++ [ks.getD n ByteArray.empty], (laidK g ks n).2 ++ [g (ks.getD n ByteArray.empty)]) := by rw [laidK, if_neg h]
theorem laid_len (g : ByteArray → List M.Cl) (ks : List ByteArray) : ∀ n, (laidK g ks n).1.length = (laidK g ks n).2.length ∧ (laidK g ks n).1.length ≤ n
  | 0 => by simp [laidK]
  | n + 1 => by
    obtain ⟨a, b⟩ := laid_len g ks n
    by_cases h : g (ks.getD n ByteArray.empty) = []
    · rw [laid_no h]; exact ⟨a, by omega⟩
    · rw [laid_yes h]; simp; omega
theorem laid_tot (g : ByteArray → List M.Cl) (ks : List ByteArray) : ∀ n, tot (laidK g ks n).2 (laidK g ks n).2.length = sumN (fun i => (g (ks.getD i ByteArray.empty)).length) n
  | 0 => by simp [laidK, sumN, tot]
  | n + 1 => by
    have ih := laid_tot g ks n
    by_cases h : g (ks.getD n ByteArray.empty) = []
    · rw [laid_no h, ih]; simp only [sumN]; rw [h]; simp
    · rw [laid_yes h]
      simp only [sumN]
      rw [J.tot_snoc, ih]
theorem laid_all {P : List M.Cl → Prop} (g : ByteArray → List M.Cl) (ks : List ByteArray) : ∀ n, (∀ i, i < n → g (ks.getD i ByteArray.empty) ≠ [] → P (g (ks.getD i ByteArray.empty))) → ∀ j, j < (laidK g ks n).2.length → P ((laidK g ks n).2.getD j [])
  | 0, _, j, hj => by simp [laidK] at hj
  | n + 1, hp, j, hj => by
    by_cases h : g (ks.getD n ByteArray.empty) = []
    · rw [laid_no h] at hj ⊢; exact laid_all g ks n (fun i hi => hp i (by omega)) j hj
    · rw [laid_yes h] at hj ⊢
      exact parts_app (laid_all g ks n (fun i hi => hp i (by omega))) (fun q hq => by
        have : q = 0 := by simpa using hq
        subst this; exact hp n (by omega) h) j hj
theorem laid_keys {P : ByteArray → Prop} (g : ByteArray → List M.Cl) (ks : List ByteArray) : ∀ n, (∀ i, i < n → P (ks.getD i ByteArray.empty)) → ∀ x ∈ (laidK g ks n).1, P x
  | 0, _, x, hx => by simp [laidK] at hx
  | n + 1, hp, x, hx => by
    by_cases h : g (ks.getD n ByteArray.empty) = []
    · rw [laid_no h] at hx; exact laid_keys g ks n (fun i hi => hp i (by omega)) x hx
    · rw [laid_yes h] at hx
      rcases List.mem_append.1 hx with hx | hx
      · exact laid_keys g ks n (fun i hi => hp i (by omega)) x hx
      · rw [List.mem_singleton.1 hx]; exact hp n (by omega)
def emptyO : List M.Cl := objV [] []
theorem empty_valid : M.valueFault emptyO = 0 ∧ (emptyO.getD 0 M.zero).kind = 6 ∧ emptyO.length = 1 ∧ keysAt emptyO 0 = [] := by
  have e : emptyO = [headCl 6 0] := rfl
  have hc : M.cellCode (headCl 6 0) = 0 := by decide +kernel
  rw [e]
  exact ⟨(one_valid hc empty_toList rfl).1, rfl, rfl, rfl⟩
def objOf (a : List M.Cl) : List M.Cl := if (a.getD 0 M.zero).kind = 6 then a else emptyO
def names (a b : List M.Cl) : List ByteArray := Tr.onceB (keysAt a 0 ++ keysAt b 0)
def mergeO (rec : List M.Cl → List M.Cl → List M.Cl) (a b : List M.Cl) : List M.Cl :=
  objV (laidK (fun k => pairM rec (memV a k) (memV b k)) (names a b) (names a b).length).1 (laidK (fun k => pairM rec (memV a k) (memV b k)) (names a b) (names a b).length).2
/-- A merge, by fuel. -/
def merge : Nat → List M.Cl → List M.Cl → List M.Cl
  | 0, _, _ => []
  | f + 1, a, b => if (b.getD 0 M.zero).kind = 6 then mergeO (merge f) (objOf a) b else b
theorem merge_b {f : Nat} {a b : List M.Cl} (h : (b.getD 0 M.zero).kind ≠ 6) : merge (f + 1) a b = b := by rw [merge, if_neg h]
theorem merge_o {f : Nat} {a b : List M.Cl} (h : (b.getD 0 M.zero).kind = 6) : merge (f + 1) a b = mergeO (merge f) (objOf a) b := by rw [merge, if_pos h]
theorem names_rise (a b : List M.Cl) : Tr.Rising (names a b) := Tr.once_up _
theorem names_ne (a b : List M.Cl) : ∀ i j, i < j → j < (names a b).length → ((names a b).getD i ByteArray.empty).toList ≠ ((names a b).getD j ByteArray.empty).toList := fun i j hij hj e => by
  have h := names_rise a b
  unfold Tr.Rising at h
  have := List.pairwise_iff_getElem.1 h i j (by omega) hj hij
  rw [List.getD_eq_getElem?_getD, List.getElem?_eq_getElem (by omega), List.getD_eq_getElem?_getD, List.getElem?_eq_getElem hj] at e
  simp only [Option.getD_some] at e
  unfold Tr.less at this
  rw [e, Tr.bl_irr] at this
  cases this
theorem names_mem {a b : List M.Cl} {x : ByteArray} (h : x ∈ names a b) : x ∈ keysAt a 0 ∨ x ∈ keysAt b 0 := by
  have := (Tr.once_mem _ x).1 h
  exact List.mem_append.1 this
theorem keys_size {v : List M.Cl} (hv : M.valueFault v = 0) {x : ByteArray} (h : x ∈ keysAt v 0) : M.textOk x = true := by
  obtain ⟨i, hi, rfl⟩ := List.getElem_of_mem h
  have := keys_text hv i hi
  rwa [List.getD_eq_getElem?_getD, List.getElem?_eq_getElem hi] at this
theorem names_ok {a b : List M.Cl} (ha : M.valueFault a = 0) (hb : M.valueFault b = 0) {x : ByteArray} (h : x ∈ names a b) : M.textOk x = true := by
  rcases names_mem h with h | h
  · exact keys_size ha h
  · exact keys_size hb h
theorem keys_count {v : List M.Cl} (hv : M.valueFault v = 0) : (keysAt v 0).length + 1 ≤ v.length := by
  rw [keysAt_length]
  have hl := (M.fault_zero hv).1
  have : ∀ q, q ≤ M.arity v 0 → q + 1 ≤ M.iter v q 1 := by
    intro q
    induction q with
    | zero => intro _; exact Nat.le_refl _
    | succ q ih => intro hq; have := part_lt hv (show q < M.arity v 0 by omega); have := ih (by omega); omega
  have h1 := this _ (Nat.le_refl _)
  have h3 : M.iter v (M.arity v 0) 1 ≤ v.length := by
    cases h : M.arity v 0 with
    | zero => show 1 ≤ _; omega
    | succ q =>
      have h7 := part_lt hv (show q < M.arity v 0 by omega)
      have h8 := part_len hv h7.1
      have h9 := end_gt hv h7.1
      omega
  omega
theorem names_len (a b : List M.Cl) (ha : M.valueFault a = 0) (hb : M.valueFault b = 0) : (names a b).length ≤ 400 := by
  have h1 := keys_count ha
  have h2 := keys_count hb
  have h3 := (M.fault_zero ha).2.1
  have h4 := (M.fault_zero hb).2.1
  unfold names Tr.onceB Tr.once
  rw [List.length_map]
  refine Nat.le_trans (Lib.compact_length_le _) ?_
  rw [List.length_mergeSort, List.length_map, List.length_append]
  omega
/-- How many cells a's members have at the most. -/
def more (a : List M.Cl) : Nat := if (a.getD 0 M.zero).kind = 6 then a.length - 1 else 0
/-- What is known of a merge. -/
structure Fit (a b m : List M.Cl) : Prop where
  bare : Bare m
  ok : ∀ c ∈ m, c.ok
  len : m.length ≤ b.length + more a
theorem objOf_val {a : List M.Cl} (ha : M.valueFault a = 0) : M.valueFault (objOf a) = 0 ∧ ((objOf a).getD 0 M.zero).kind = 6 ∧ (objOf a).length = more a + 1 := by
  have hl := (M.fault_zero ha).1
  unfold objOf more
  split
  · exact ⟨ha, by assumption, by omega⟩
  · exact ⟨empty_valid.1, empty_valid.2.1, empty_valid.2.2.1⟩
theorem okOf {c : M.Cl} (h : M.cellCode c = 0) : c.ok := by
  unfold M.cellCode at h
  split at h
  · cases h
  split at h
  · cases h
  split at h
  · cases h
  split at h
  · rename_i h1 h2 h3 h4
    have t1 : c.text.size ≤ 60 := by have := h4.1; unfold M.textOk at this; rw [Bool.and_eq_true, decide_eq_true_eq] at this; exact this.1
    have t2 : c.key.size ≤ 60 := by have := h4.2; unfold M.textOk at this; rw [Bool.and_eq_true, decide_eq_true_eq] at this; exact this.1
    unfold M.Cl.ok
    omega
  · cases h
theorem bare_val {v : List M.Cl} (hv : M.valueFault v = 0) : Bare v := ⟨(M.fault_zero hv).1, setKey_none hv⟩
theorem ok_val {v : List M.Cl} (hv : M.valueFault v = 0) : ∀ c ∈ v, c.ok := fun c hc => okOf (M.first_zero (M.fault_zero hv).2.2.1 c hc)
/-- What is laid of one key. -/
theorem pair_fit {f : Nat} (ih : ∀ a b, M.valueFault a = 0 → M.valueFault b = 0 → b.length ≤ f → Fit a b (merge f a b)) {a b : List M.Cl} (ha : M.valueFault a = 0) (hb : M.valueFault b = 0) (hf : b.length ≤ f + 1) (k : ByteArray) :
    pairM (merge f) (memV a k) (memV b k) = [] ∨ (Bare (pairM (merge f) (memV a k) (memV b k)) ∧ (∀ c ∈ pairM (merge f) (memV a k) (memV b k), c.ok) ∧ (pairM (merge f) (memV a k) (memV b k)).length ≤ (memV a k).length + (memV b k).length) := by
  rcases memV_val hb k with hr | ⟨hr, hr1, hr2⟩
  · rw [pair_l hr]
    rcases memV_val ha k with hl | ⟨hl, hl1, hl2⟩
    · exact .inl hl
    · exact .inr ⟨bare_val hl, ok_val hl, by omega⟩
  · have hne : memV b k ≠ [] := by intro e; rw [e] at hr1; simp at hr1
    by_cases h0 : ((memV b k).getD 0 M.zero).kind = 0
    · exact .inl (pair_0 hne h0)
    · rcases memV_val ha k with hl | ⟨hl, hl1, hl2⟩
      · rw [pair_r hne h0 hl]
        have := ih [M.zero] (memV b k) zero_valid.1 hr (by omega)
        have h2 := this.len
        have h3 : more [M.zero] = 0 := rfl
        exact .inr ⟨this.bare, this.ok, by omega⟩
      · have hnl : memV a k ≠ [] := by intro e; rw [e] at hl1; simp at hl1
        rw [pair_b hne h0 hnl]
        have := ih (memV a k) (memV b k) hl hr (by omega)
        have h2 := this.len
        have h3 : more (memV a k) ≤ (memV a k).length := by unfold more; split <;> omega
        exact .inr ⟨this.bare, this.ok, by omega⟩
theorem laid_fit {f : Nat} (ih : ∀ a b, M.valueFault a = 0 → M.valueFault b = 0 → b.length ≤ f → Fit a b (merge f a b)) {a b : List M.Cl} (ha : M.valueFault a = 0) (hb : M.valueFault b = 0) (hf : b.length ≤ f + 1) (n : Nat) (hn : n ≤ (names a b).length) :
    (∀ j, j < (laidK (fun k => pairM (merge f) (memV a k) (memV b k)) (names a b) n).2.length → Bare ((laidK (fun k => pairM (merge f) (memV a k) (memV b k)) (names a b) n).2.getD j []) ∧ ∀ c ∈ (laidK (fun k => pairM (merge f) (memV a k) (memV b k)) (names a b) n).2.getD j [], c.ok) ∧
    tot (laidK (fun k => pairM (merge f) (memV a k) (memV b k)) (names a b) n).2 (laidK (fun k => pairM (merge f) (memV a k) (memV b k)) (names a b) n).2.length + 2 ≤ a.length + b.length := by
  refine ⟨laid_all (P := fun p => Bare p ∧ ∀ c ∈ p, c.ok) _ _ n (fun i hi h => ?_), ?_⟩
  · rcases pair_fit ih ha hb hf ((names a b).getD i ByteArray.empty) with h0 | ⟨h1, h2, _⟩
    · exact absurd h0 h
    · exact ⟨h1, h2⟩
  · rw [laid_tot]
    have h1 := mem_total ha (names a b) (names_ne a b)
    have h2 := mem_total hb (names a b) (names_ne a b)
    have h3 : sumN (fun i => (pairM (merge f) (memV a ((names a b).getD i ByteArray.empty)) (memV b ((names a b).getD i ByteArray.empty))).length) n ≤ sumN (fun i => (memV a ((names a b).getD i ByteArray.empty)).length + (memV b ((names a b).getD i ByteArray.empty)).length) n := sumN_le n fun i _ => by
      rcases pair_fit ih ha hb hf ((names a b).getD i ByteArray.empty) with h0 | ⟨_, _, h2⟩
      · rw [h0]; simp
      · exact h2
    rw [sumN_add] at h3
    have hmono : ∀ (x : Nat → Nat) (p q : Nat), p ≤ q → sumN x p ≤ sumN x q := fun x p q hpq => by
      induction q with
      | zero => have : p = 0 := by omega
                subst this; exact Nat.le_refl _
      | succ q ih =>
        by_cases e : p = q + 1
        · subst e; exact Nat.le_refl _
        · have := ih (by omega); simp only [sumN]; omega
    have h4 := hmono (fun i => (memV a ((names a b).getD i ByteArray.empty)).length) n _ hn
    have h5 := hmono (fun i => (memV b ((names a b).getD i ByteArray.empty)).length) n _ hn
    omega
theorem merge_fit : ∀ f a b, M.valueFault a = 0 → M.valueFault b = 0 → b.length ≤ f → Fit a b (merge f a b)
  | 0, a, b, ha, hb, hf => by have := (M.fault_zero hb).1; omega
  | f + 1, a, b, ha, hb, hf => by
    by_cases h6 : (b.getD 0 M.zero).kind = 6
    · obtain ⟨hv, hk, hl⟩ := objOf_val ha
      have hal := (M.fault_zero hv).2.1
      have hbl := (M.fault_zero hb).2.1
      obtain ⟨h1, h2⟩ := laid_fit (merge_fit f) hv hb hf _ (Nat.le_refl _)
      obtain ⟨h3, h4⟩ := laid_len (fun k => pairM (merge f) (memV (objOf a) k) (memV b k)) (names (objOf a) b) (names (objOf a) b).length
      have h5 := names_len (objOf a) b hv hb
      have hks := laid_keys (P := fun x => M.textOk x = true) (fun k => pairM (merge f) (memV (objOf a) k) (memV b k)) (names (objOf a) b) _ (fun i hi => names_ok hv hb (by rw [List.getD_eq_getElem?_getD, List.getElem?_eq_getElem hi]; exact List.getElem_mem hi))
      rw [merge_o h6]
      unfold mergeO
      generalize (laidK (fun k => pairM (merge f) (memV (objOf a) k) (memV b k)) (names (objOf a) b) (names (objOf a) b).length).1 = K at *
      generalize (laidK (fun k => pairM (merge f) (memV (objOf a) k) (memV b k)) (names (objOf a) b) (names (objOf a) b).length).2 = Q at *
      have hlen := (J.made_len true K Q (fun _ => h3)).2
      have hlen : (objV K Q).length ≤ 1 + tot Q Q.length := hlen
      refine ⟨J.made_bare true K Q, ?_, by omega⟩
      have hst := fun p (hp : p ∈ St.stand K K.length) => St.stand_lt K K.length p hp
      have hsl := St.stand_length K K.length
      refine objK_ok K Q _ (by omega) (fun p hp => (h1 p (by have := hst p hp; omega)).2) (fun p hp => ?_) _ (Nat.le_refl _)
      have := hst p hp
      have ht := hks (K.getD p ByteArray.empty) (by rw [List.getD_eq_getElem?_getD, List.getElem?_eq_getElem this]; exact List.getElem_mem this)
      unfold M.textOk at ht
      rw [Bool.and_eq_true, decide_eq_true_eq] at ht
      omega
    · rw [merge_b h6]
      exact ⟨bare_val hb, ok_val hb, by omega⟩
/-- What MergeValues tells. -/
def mergeOut (a b : List M.Cl) : Int × List M.Cl := if bothOut a b ≠ 0 then (bothOut a b, []) else told (merge b.length a b)
theorem out_bad {a b : List M.Cl} (h : bothOut a b ≠ 0) : mergeOut a b = (bothOut a b, []) := if_pos h
theorem out_ok {a b : List M.Cl} (h : bothOut a b = 0) : mergeOut a b = told (merge b.length a b) := if_neg (by simp [h])
end Mg
end Go.Proofs.Ytlmibdddfjbbdaa
