/-
  Names that are known, plainly: who names a place, what is bound there, which nodes are not known.
  Cores, plainly: nodes, their faults, and a core as a tree of the same order.
  Compiling, plainly: the code of a node, laid behind what was laid; how much is laid. No word of the program is used here.
-/
import Derived.Test.YtgjbibkppofjfaaDoorTreP
import Derived.Test.YtgjbibkppofjfaaDoorMem
import Derived.Test.YtgjbibkppofjfaaDoorInN
namespace Go.Proofs.YtgjbibkppofjfaaDoor
open Go.RowKit
set_option linter.unusedVariables false
set_option linter.unusedSimpArgs false

namespace Tr
/-- Does a node bind its variable in what stands at a place? -/
def binds (n : Nd) (x : Int) : Bool := (n.op == 20 && n.b == x) || (n.op == 19 && n.c == x)
/-- Which node names a place, by the first k; -1: none yet. -/
def holdK (l : List Nd) : Nat → Nat → Int
  | 0, _ => 0
  | k + 1, j => if (j : Int) ∈ links (l.getD k Nd.zero) then k else if j = k then -1 else holdK l k j
def hold (l : List Nd) (j : Nat) : Int := holdK l l.length j
def boundF (l : List Nd) : Nat → Nat → ByteArray → Bool
  | 0, _, _ => false
  | f + 1, x, t => if hold l x < 0 then false else if (binds (l.getD (hold l x).toNat Nd.zero) x && ((l.getD (hold l x).toNat Nd.zero).text.toList == t.toList)) = true then true else boundF l f (hold l x).toNat t
def bound (l : List Nd) (x : Nat) (t : ByteArray) : Bool := boundF l l.length x t

theorem stk_part {l : List Nd} {k : Nat} {st : List Int} (h : stk l (k + 1) = some st) : ∃ s, stk l k = some s ∧ ∃ r, s = r ++ links (l.getD k Nd.zero) ∧ st = r ++ [(k : Int)] := by
  cases e : stk l k with
  | none => rw [stk, e] at h; simp at h
  | some s =>
    rw [stk_step e] at h
    split at h
    · rename_i hc
      simp only [Option.some.injEq] at h
      refine ⟨s, rfl, s.take (s.length - (links (l.getD k Nd.zero)).length), ?_, h.symm⟩
      conv => lhs; rw [← List.take_append_drop (s.length - (links (l.getD k Nd.zero)).length) s]
      rw [hc.2]
    · simp at h
theorem stk_up {l : List Nd} (k : Nat) : ∀ st, stk l k = some st → st.Pairwise (· < ·) ∧ ∀ x ∈ st, x < k := by
  induction k with
  | zero => intro st h; simp [stk] at h; subst h; simp
  | succ k ih =>
    intro st h
    obtain ⟨s, hs, r, e1, e2⟩ := stk_part h
    obtain ⟨h1, h2⟩ := ih s hs
    subst e2
    rw [e1] at h1 h2
    have h3 := List.pairwise_append.1 h1
    refine ⟨List.pairwise_append.2 ⟨h3.1, by simp, fun a ha b hb => ?_⟩, fun x hx => ?_⟩
    · simp at hb; subst hb; exact h2 a (by simp [ha])
    · rcases List.mem_append.1 hx with hx | hx
      · have := h2 x (by simp [hx]); omega
      · simp at hx; omega
theorem stk_some_le {l : List Nd} {k m : Nat} {st : List Int} (h : stk l m = some st) (hk : k ≤ m) : ∃ s, stk l k = some s := by
  cases e : stk l k with
  | none => rw [stk_none_le e hk] at h; simp at h
  | some s => exact ⟨s, rfl⟩
theorem stk_gone {l : List Nd} {k : Nat} {x : Int} (hx : x < k) : ∀ m, k ≤ m → ∀ st st', stk l k = some st → stk l m = some st' → x ∉ st → x ∉ st' := by
  intro m hm
  induction m with
  | zero =>
    intro st st' h h' hn
    have : k = 0 := by omega
    subst this
    rw [h] at h'; simp only [Option.some.injEq] at h'; subst h'; exact hn
  | succ m ih =>
    intro st st' h h' hn
    by_cases e : k = m + 1
    · subst e; rw [h] at h'; simp only [Option.some.injEq] at h'; subst h'; exact hn
    · obtain ⟨s, hs, r, e1, e2⟩ := stk_part h'
      have := ih (by omega) st s h hs hn
      rw [e1] at this
      subst e2
      intro hc
      rcases List.mem_append.1 hc with hc | hc
      · exact this (by simp [hc])
      · simp at hc; omega
/-- In a tree in order, a place is named once. -/
theorem named_once {l : List Nd} {st : List Int} (hs : stk l l.length = some st) {at1 at2 : Nat} {x : Int} (h1 : at1 < l.length) (h2 : at2 < l.length) (hx1 : x ∈ links (l.getD at1 Nd.zero)) (hx2 : x ∈ links (l.getD at2 Nd.zero)) : at1 = at2 := by
  have key : ∀ a b, a < b → b < l.length → x ∈ links (l.getD a Nd.zero) → x ∈ links (l.getD b Nd.zero) → False := by
    intro a b hab hb ha hb2
    obtain ⟨sa, hsa⟩ := stk_some_le hs (show a + 1 ≤ l.length by omega)
    obtain ⟨s, hs1, r, e1, e2⟩ := stk_part hsa
    obtain ⟨u1, u2⟩ := stk_up a s hs1
    have hxa : x < a := by rw [e1] at u2; exact u2 x (List.mem_append_right _ ha)
    have hn : x ∉ sa := by
      rw [e2]
      rw [e1] at u1
      intro hc
      rcases List.mem_append.1 hc with hc | hc
      · have := (List.pairwise_append.1 u1).2.2 x hc x ha
        omega
      · simp at hc; omega
    obtain ⟨sb, hsb⟩ := stk_some_le hs (show b + 1 ≤ l.length by omega)
    obtain ⟨s2, hs2, r2, e3, e4⟩ := stk_part hsb
    have := stk_gone (k := a + 1) (x := x) (by omega) b (by omega) sa s2 hsa hs2 hn
    rw [e3] at this
    exact this (List.mem_append_right _ hb2)
  rcases Nat.lt_trichotomy at1 at2 with h | h | h
  · exact absurd (key _ _ h h2 hx1 hx2) id
  · exact h
  · exact absurd (key _ _ h h1 hx2 hx1) id
theorem order_stk {l : List Nd} (h : inOrder l = true) : ∃ st, stk l l.length = some st := by
  unfold inOrder at h
  cases e : stk l l.length with
  | none => rw [e] at h; simp at h
  | some st => exact ⟨st, rfl⟩
theorem links_up {l : List Nd} (h : inOrder l = true) {i : Nat} (hi : i < l.length) : (links (l.getD i Nd.zero)).Pairwise (· < ·) := by
  obtain ⟨st, hs⟩ := order_stk h
  obtain ⟨s1, h1⟩ := stk_some_le hs (show i + 1 ≤ l.length by omega)
  obtain ⟨s, hs1, r, e1, e2⟩ := stk_part h1
  have := (stk_up i s hs1).1
  rw [e1] at this
  exact (List.pairwise_append.1 this).2.1
theorem hold_kid {l : List Nd} (hf : Fine l) (ho : inOrder l = true) {i : Nat} (hi : i < l.length) {x : Nat} (hx : (x : Int) ∈ links (l.getD i Nd.zero)) : hold l x = i := by
  obtain ⟨st, hs⟩ := order_stk ho
  have hb := hf i hi _ hx
  have key : ∀ d, i + 1 + d ≤ l.length → holdK l (i + 1 + d) x = i := by
    intro d
    induction d with
    | zero => intro _; rw [Nat.add_zero, holdK, if_pos hx]
    | succ d ih =>
      intro hd
      rw [show i + 1 + (d + 1) = (i + 1 + d) + 1 by omega, holdK, if_neg, if_neg (by omega)]
      · exact ih (by omega)
      · intro hc
        have := named_once hs hi (show i + 1 + d < l.length by omega) hx hc
        omega
  have := key (l.length - (i + 1)) (by omega)
  rw [show i + 1 + (l.length - (i + 1)) = l.length by omega] at this
  exact this
theorem hold_root {l : List Nd} (hf : Fine l) (h0 : 0 < l.length) : hold l (l.length - 1) = -1 := by
  unfold hold
  obtain ⟨k, hk⟩ : ∃ k, l.length = k + 1 := ⟨l.length - 1, by omega⟩
  rw [hk, Nat.add_sub_cancel, holdK, if_neg, if_pos rfl]
  intro hc
  have := hf k (by omega) _ hc
  omega
/-- Who holds a place stands behind it. -/
theorem holdK_up {l : List Nd} (hf : Fine l) (k : Nat) (hk : k ≤ l.length) (x : Nat) (hx : x < k) : holdK l k x < 0 ∨ ((x : Int) < holdK l k x ∧ holdK l k x < k) := by
  induction k with
  | zero => omega
  | succ k ih =>
    rw [holdK]
    split
    · rename_i hc; have := hf k (by omega) _ hc; right; omega
    · split
      · left; omega
      · rcases ih (by omega) (by omega) with h | h
        · exact .inl h
        · right; omega
theorem hold_up {l : List Nd} (hf : Fine l) (x : Nat) (hx : x < l.length) : hold l x < 0 ∨ ((x : Int) < hold l x ∧ hold l x < l.length) := holdK_up hf l.length (Nat.le_refl _) x hx
theorem boundF_eq {l : List Nd} (hf : Fine l) (t : ByteArray) (f : Nat) : ∀ g x, x < l.length → l.length - x ≤ f → l.length - x ≤ g → boundF l f x t = boundF l g x t := by
  induction f with
  | zero => intro g x hx h; omega
  | succ f ih =>
    intro g x hx h1 h2
    obtain ⟨g, rfl⟩ : ∃ k, g = k + 1 := ⟨g - 1, by omega⟩
    rw [boundF, boundF]
    by_cases hn : hold l x < 0
    · rw [if_pos hn, if_pos hn]
    · rw [if_neg hn, if_neg hn]
      have := hold_up hf x hx
      rw [ih g (hold l x).toNat (by omega) (by omega) (by omega)]
theorem bound_step {l : List Nd} (hf : Fine l) (x : Nat) (hx : x < l.length) (t : ByteArray) : bound l x t = if hold l x < 0 then false else if (binds (l.getD (hold l x).toNat Nd.zero) x && ((l.getD (hold l x).toNat Nd.zero).text.toList == t.toList)) = true then true else bound l (hold l x).toNat t := by
  unfold bound
  obtain ⟨k, hk⟩ : ∃ k, l.length = k + 1 := ⟨l.length - 1, by omega⟩
  conv => lhs; rw [hk, boundF]
  by_cases hn : hold l x < 0
  · rw [if_pos hn, if_pos hn]
  · rw [if_neg hn, if_neg hn]
    have := hold_up hf x hx
    rw [boundF_eq hf t k l.length (hold l x).toNat (by omega) (by omega) (by omega)]
theorem bound_kid {l : List Nd} (hf : Fine l) (ho : inOrder l = true) {i : Nat} (hi : i < l.length) {x : Nat} (hx : (x : Int) ∈ links (l.getD i Nd.zero)) (t : ByteArray) : bound l x t = ((binds (l.getD i Nd.zero) x && ((l.getD i Nd.zero).text.toList == t.toList)) || bound l i t) := by
  have hb := hf i hi _ hx
  rw [bound_step hf x (by omega), hold_kid hf ho hi hx, if_neg (by omega), Int.toNat_natCast]
  cases (binds (l.getD i Nd.zero) x && ((l.getD i Nd.zero).text.toList == t.toList)) <;> simp
theorem bound_root {l : List Nd} (hf : Fine l) (h0 : 0 < l.length) (t : ByteArray) : bound l (l.length - 1) t = false := by
  rw [bound_step hf _ (by omega), hold_root hf h0, if_pos (by omega)]
/-- Which of what a node names it binds its variable in. -/
theorem binds_kid {l : List Nd} (ho : inOrder l = true) {i : Nat} (hi : i < l.length) {j : Nat} (hj : j < kids (l.getD i Nd.zero).op) : binds (l.getD i Nd.zero) (kidAt (l.getD i Nd.zero) j) = (((l.getD i Nd.zero).op == 20 && j == 1) || ((l.getD i Nd.zero).op == 19 && j == 2)) := by
  have hu := links_up ho hi
  generalize l.getD i Nd.zero = n at *
  unfold binds
  by_cases h20 : n.op = 20
  · have hk : kids n.op = 2 := by rw [h20]; decide
    unfold links at hu
    rw [hk] at hu hj
    simp at hu
    have hh : j = 0 ∨ j = 1 := by omega
    rw [h20]
    rcases hh with rfl | rfl
    · have : ¬ n.b = n.a := by omega
      simp [kidAt, this]
    · simp [kidAt]
  · by_cases h19 : n.op = 19
    · have hk : kids n.op = 3 := by rw [h19]; decide
      unfold links at hu
      rw [hk] at hu hj
      simp at hu
      have hh : j = 0 ∨ j = 1 ∨ j = 2 := by omega
      rw [h19]
      rcases hh with rfl | rfl | rfl
      · have : ¬ n.c = n.a := by omega
        simp [kidAt, this]
      · have : ¬ n.c = n.b := by omega
        simp [kidAt, this]
      · simp [kidAt]
    · have e1 : (n.op == 20) = false := by simpa using h20
      have e2 : (n.op == 19) = false := by simpa using h19
      rw [e1, e2]; rfl
end Tr
namespace Tr
def theCalls : List ByteArray := [⟨#[108, 101, 110, 103, 116, 104]⟩, ⟨#[107, 101, 121, 115]⟩, ⟨#[110, 111, 116]⟩, ⟨#[101, 109, 112, 116, 121]⟩, ⟨#[101, 114, 114, 111, 114]⟩, ⟨#[116, 121, 112, 101]⟩, ⟨#[115, 111, 114, 116]⟩, ⟨#[97, 100, 100]⟩]
def theOnes : List ByteArray := [⟨#[109, 97, 112]⟩, ⟨#[115, 101, 108, 101, 99, 116]⟩, ⟨#[114, 97, 110, 103, 101]⟩]
def callOk (n : Nd) : Bool := if n.op = 22 then oneOf theCalls n.text else if n.op = 23 then oneOf theOnes n.text else true
/-- A node is not known. -/
def unk (l : List Nd) (i : Nat) : Bool := !callOk (l.getD i Nd.zero) || ((l.getD i Nd.zero).op == 21 && !bound l i (l.getD i Nd.zero).text)
def unkI (l : List Nd) (x : Int) : Bool := unk l x.toNat
def scopeOut (l : List Nd) : Int × Int := if fault l ≠ 0 then (fault l, 0) else match ((up 0 l.length).filter (unkI l)).head? with | some x => (4, x) | none => (0, 0)
theorem scope_fault {l : List Nd} (h : fault l ≠ 0) : scopeOut l = (fault l, 0) := by unfold scopeOut; rw [if_pos h]
theorem filter_first {l : List Nd} (k n : Nat) (hk : k < n) (h : ∀ j, j < k → unk l j = false) (hu : unk l k = true) : ((up 0 n).filter (unkI l)).head? = some (k : Int) := by
  have e : up 0 n = up 0 k ++ ([(k : Int)] ++ up (k + 1) (n - (k + 1))) := by
    rw [show n = k + (1 + (n - (k + 1))) by omega, up_add, up_add, up_one]
    simp
    congr 1; omega
  rw [e, List.filter_append, List.filter_append]
  have e1 : (up 0 k).filter (unkI l) = [] := by
    rw [List.filter_eq_nil_iff]
    intro x hx
    obtain ⟨j, hj, rfl⟩ : ∃ j, j < k ∧ x = (j : Int) := by
      unfold up at hx
      rw [List.mem_map] at hx
      obtain ⟨j, hj, rfl⟩ := hx
      rw [List.mem_range'_1] at hj
      exact ⟨j, by omega, rfl⟩
    unfold unkI
    rw [Int.toNat_natCast, h j hj]; simp
  rw [e1]
  simp [unkI, hu]
theorem filter_none {l : List Nd} (n : Nat) (h : ∀ j, j < n → unk l j = false) : (up 0 n).filter (unkI l) = [] := by
  rw [List.filter_eq_nil_iff]
  intro x hx
  unfold up at hx
  rw [List.mem_map] at hx
  obtain ⟨j, hj, rfl⟩ := hx
  rw [List.mem_range'_1] at hj
  unfold unkI
  rw [Int.toNat_natCast, h j (by omega)]; simp
theorem scope_first {l : List Nd} (hf : fault l = 0) {k : Nat} (hk : k < l.length) (h : ∀ j, j < k → unk l j = false) (hu : unk l k = true) : scopeOut l = (4, (k : Int)) := by
  unfold scopeOut; rw [if_neg (by simpa using hf), filter_first k l.length hk h hu]
theorem scope_none {l : List Nd} (hf : fault l = 0) (h : ∀ j, j < l.length → unk l j = false) : scopeOut l = (0, 0) := by
  unfold scopeOut; rw [if_neg (by simpa using hf), filter_none l.length h]; rfl
theorem scope_list {l : List Nd} (hf : fault l = 0) {L : List Int} (h : L = (up 0 l.length).filter (unkI l)) : scopeOut l = match L.head? with | some x => (4, x) | none => (0, 0) := by
  unfold scopeOut; rw [if_neg (by simpa using hf), h]
theorem fault_parts {l : List Nd} (h : fault l = 0) : 0 < l.length ∧ l.length ≤ 200 ∧ nf l l.length = 0 ∧ inOrder l = true := by
  unfold fault at h
  split at h; · exact absurd h (by decide)
  rename_i h1
  split at h; · rename_i h2; exact absurd h h2
  rename_i h2
  split at h; · exact absurd h (by decide)
  rename_i h3
  exact ⟨by omega, by omega, by simpa using h2, by simpa using h3⟩
/-- What is not known, behind the first j that a node names. -/
def scoK (f : Nat) (l : List Nd) (n : Nd) (out : List Int) (j : Nat) : List Int := out ++ (((links n).take j).flatMap (fun x => ordF f l x.toNat)).filter (unkI l)
theorem scoK_zero (f : Nat) (l : List Nd) (n : Nd) (out : List Int) : scoK f l n out 0 = out := by unfold scoK; simp
theorem scoK_succ (f : Nat) (l : List Nd) (n : Nd) (out : List Int) (j : Nat) (hj : j < kids n.op) : scoK f l n out (j + 1) = scoK f l n out j ++ (ordF f l (kidAt n j).toNat).filter (unkI l) := by
  unfold scoK
  have h : j < (links n).length := by rw [links_length]; exact hj
  have e : (links n)[j] = kidAt n j := by
    have := links_getD n j hj
    rw [List.getD_eq_getElem?_getD, List.getElem?_eq_getElem h] at this
    exact this
  rw [List.take_succ_eq_append_getElem h, List.flatMap_append, List.filter_append, e]
  simp
theorem scoK_all (f : Nat) (l : List Nd) (out : List Int) (i : Nat) : out ++ (ordF (f + 1) l i).filter (unkI l) = scoK f l (l.getD i Nd.zero) out (kids (l.getD i Nd.zero).op) ++ (if unk l i = true then [(i : Int)] else []) := by
  unfold scoK
  rw [ordF, List.take_of_length_le (by rw [links_length]; exact Nat.le_refl _), List.filter_append, List.append_assoc]
  congr 2
  cases h : unk l i <;> simp [unkI, h]
theorem oneOf_snoc (ss : List ByteArray) (t s : ByteArray) : oneOf (ss ++ [t]) s = (oneOf ss s || (t.toList == s.toList)) := by
  unfold oneOf; rw [List.any_append]; simp
theorem kid_mem (n : Nd) (j : Nat) (hj : j < kids n.op) : kidAt n j ∈ links n := by
  rw [links_kidAt]; exact List.mem_map.2 ⟨j, List.mem_range.2 hj, rfl⟩
end Tr
namespace Tr
theorem sco_room (f : Nat) (l : List Nd) (i : Nat) (out : List Int) (j : Nat) (hj : j < kids (l.getD i Nd.zero).op) : (scoK f l (l.getD i Nd.zero) out j).length + (ordF f l (kidAt (l.getD i Nd.zero) j).toNat).length ≤ out.length + (ordF (f + 1) l i).length := by
  rw [ordF, List.length_append]
  generalize l.getD i Nd.zero = n at *
  have h : j < (links n).length := by rw [links_length]; exact hj
  have e : (links n)[j] = kidAt n j := by
    have := links_getD n j hj
    rw [List.getD_eq_getElem?_getD, List.getElem?_eq_getElem h] at this
    exact this
  have e2 : links n = (links n).take j ++ ([kidAt n j] ++ (links n).drop (j + 1)) := by
    conv => lhs; rw [← List.take_append_drop j (links n), List.drop_eq_getElem_cons h, e]
    rfl
  have e3 : ((links n).flatMap (fun x => ordF f l x.toNat)).length = (((links n).take j).flatMap (fun x => ordF f l x.toNat)).length + ((ordF f l (kidAt n j).toNat).length + (((links n).drop (j + 1)).flatMap (fun x => ordF f l x.toNat)).length) := by
    conv => lhs; rw [e2]
    rw [List.flatMap_append, List.flatMap_append, List.length_append, List.length_append]
    simp
  unfold scoK
  rw [List.length_append]
  have := List.length_filter_le (unkI l) (((links n).take j).flatMap (fun x => ordF f l x.toNat))
  rw [e3]
  omega
theorem sco_room2 (f : Nat) (l : List Nd) (i : Nat) (out : List Int) : (scoK f l (l.getD i Nd.zero) out (kids (l.getD i Nd.zero).op)).length + 1 ≤ out.length + (ordF (f + 1) l i).length := by
  rw [ordF, List.length_append]
  unfold scoK
  rw [List.take_of_length_le (by rw [links_length]; exact Nat.le_refl _), List.length_append]
  have := List.length_filter_le (unkI l) ((links (l.getD i Nd.zero)).flatMap (fun x => ordF f l x.toNat))
  simp only [List.length_cons, List.length_nil]
  omega
/-- Who names each place, by the first k nodes and m of what the next one names. -/
def Holds (l : List Nd) (xs : List Value) (h : Nat → Int) : Prop := xs.length = l.length ∧ ∀ j, j < l.length → xs[j]? = some (.int .i64 (h j))
theorem Holds.put {l : List Nd} {xs : List Value} {h : Nat → Int} (H : Holds l xs h) (x : Nat) (v : Int) : Holds l (xs.set x (.int .i64 v)) (fun j => if j = x then v else h j) := by
  refine ⟨by rw [List.length_set]; exact H.1, fun j hj => ?_⟩
  show _ = some (Value.int .i64 (if j = x then v else h j))
  by_cases e : j = x
  · subst e; rw [List.getElem?_set_self (by rw [H.1]; exact hj), if_pos rfl]
  · rw [List.getElem?_set_ne (by omega), if_neg e]; exact H.2 j hj
theorem Holds.congr {l : List Nd} {xs : List Value} {h h' : Nat → Int} (H : Holds l xs h) (e : ∀ j, j < l.length → h j = h' j) : Holds l xs h' := ⟨H.1, fun j hj => by rw [H.2 j hj, e j hj]⟩
def holdM (l : List Nd) (k m : Nat) (j : Nat) : Int := if (j : Int) ∈ (links (l.getD k Nd.zero)).take m then k else if j = k then -1 else holdK l k j
theorem holdM_zero (l : List Nd) (k j : Nat) : holdM l k 0 j = if j = k then -1 else holdK l k j := by unfold holdM; simp
theorem holdM_succ (l : List Nd) (k m : Nat) (hm : m < kids (l.getD k Nd.zero).op) (x : Nat) (hx : kidAt (l.getD k Nd.zero) m = x) (j : Nat) : holdM l k (m + 1) j = if j = x then (k : Int) else holdM l k m j := by
  unfold holdM
  have h : m < (links (l.getD k Nd.zero)).length := by rw [links_length]; exact hm
  have e : (links (l.getD k Nd.zero))[m] = kidAt (l.getD k Nd.zero) m := by
    have := links_getD (l.getD k Nd.zero) m hm
    rw [List.getD_eq_getElem?_getD, List.getElem?_eq_getElem h] at this
    exact this
  rw [List.take_succ_eq_append_getElem h, e, hx]
  by_cases ej : j = x
  · subst ej; rw [if_pos (by simp), if_pos rfl]
  · rw [if_neg ej]
    have : ((j : Int) ∈ (links (l.getD k Nd.zero)).take m ++ [(x : Int)]) ↔ (j : Int) ∈ (links (l.getD k Nd.zero)).take m := by
      rw [List.mem_append]; simp; omega
    simp only [this]
theorem holdM_all (l : List Nd) (k j : Nat) : holdM l k (kids (l.getD k Nd.zero).op) j = holdK l (k + 1) j := by
  unfold holdM
  rw [List.take_of_length_le (by rw [links_length]; exact Nat.le_refl _), holdK]
end Tr

end Go.Proofs.YtgjbibkppofjfaaDoor

namespace Go.Proofs.YtgjbibkppofjfaaDoor
open Go.RowKit
set_option linter.unusedVariables false
set_option linter.unusedSimpArgs false


/-- A node of a core, by its fields. -/
structure Co where
  op : Int
  a : Int
  b : Int
  c : Int
  num : Int
  val : List M.Cl
namespace Co
def zero : Co := ⟨0, 0, 0, 0, 0, []⟩
def kids (op : Int) : Nat := if op = 12 ∨ op = 13 then 3 else if (3 ≤ op ∧ op ≤ 7) ∨ op = 11 ∨ op = 14 then 2 else if 8 ≤ op ∧ op ≤ 10 then 1 else 0
theorem kids_le (op : Int) : kids op ≤ 3 := by unfold kids; split <;> (try split) <;> (try split) <;> omega
def low (op : Int) : Int := if op = 6 ∨ op = 16 then 1 else 0
def high (op : Int) : Int := if op = 6 then 11 else if op = 13 ∨ op = 14 ∨ op = 15 then 59 else if op = 16 then 8 else 0
def hasVal (op : Int) : Bool := op == 2 || op == 11
/-- The fault of what a node holds. -/
def valF (c : Co) : Int := if hasVal c.op = true then (if M.valueFault c.val ≠ 0 then M.valueFault c.val else if c.op = 11 ∧ (c.val.getD 0 M.zero).kind ≠ 4 then 6 else 0) else if 0 < c.val.length then 1 else 0
def formOk (c : Co) (i : Nat) : Bool := Tr.linksOk (kids c.op) c.a c.b c.c i && (high c.op != 0 || c.num == 0)
def nodeF (l : List Co) (i : Nat) : Int :=
  if (l.getD i zero).op < 1 ∨ 17 < (l.getD i zero).op then 6 else if formOk (l.getD i zero) i = false then 1 else if valF (l.getD i zero) ≠ 0 then valF (l.getD i zero) else if (l.getD i zero).num < low (l.getD i zero).op ∨ high (l.getD i zero).op < (l.getD i zero).num then 3 else 0
theorem node_6 {l : List Co} {i : Nat} {n : Co} (hn : n = l.getD i zero) (h : n.op < 1 ∨ 17 < n.op) : nodeF l i = 6 := by subst hn; unfold nodeF; rw [if_pos h]
theorem node_1 {l : List Co} {i : Nat} {n : Co} (hn : n = l.getD i zero) (h : ¬ (n.op < 1 ∨ 17 < n.op)) (h1 : formOk n i = false) : nodeF l i = 1 := by subst hn; unfold nodeF; rw [if_neg h, if_pos h1]
theorem node_v {l : List Co} {i : Nat} {n : Co} (hn : n = l.getD i zero) (h : ¬ (n.op < 1 ∨ 17 < n.op)) (h1 : formOk n i = true) (h2 : valF n ≠ 0) : nodeF l i = valF n := by subst hn; unfold nodeF; rw [if_neg h, if_neg (by rw [h1]; decide), if_pos h2]
theorem node_3 {l : List Co} {i : Nat} {n : Co} (hn : n = l.getD i zero) (h : ¬ (n.op < 1 ∨ 17 < n.op)) (h1 : formOk n i = true) (h2 : valF n = 0) (h3 : n.num < low n.op ∨ high n.op < n.num) : nodeF l i = 3 := by subst hn; unfold nodeF; rw [if_neg h, if_neg (by rw [h1]; decide), if_neg (fun h => h h2), if_pos h3]
theorem node_0 {l : List Co} {i : Nat} {n : Co} (hn : n = l.getD i zero) (h : ¬ (n.op < 1 ∨ 17 < n.op)) (h1 : formOk n i = true) (h2 : valF n = 0) (h3 : ¬ (n.num < low n.op ∨ high n.op < n.num)) : nodeF l i = 0 := by subst hn; unfold nodeF; rw [if_neg h, if_neg (by rw [h1]; decide), if_neg (fun h => h h2), if_neg h3]
theorem form_no {n : Co} {i : Nat} (h : Tr.linksOk (kids n.op) n.a n.b n.c i = false ∨ (high n.op = 0 ∧ n.num ≠ 0)) : formOk n i = false := by
  unfold formOk
  rcases h with h | ⟨h1, h2⟩
  · rw [h]; rfl
  · rw [Bool.and_eq_false_iff]; right; simp [h1, h2]
theorem form_yes {n : Co} {i : Nat} (h : Tr.linksOk (kids n.op) n.a n.b n.c i = true) (h1 : high n.op ≠ 0 ∨ n.num = 0) : formOk n i = true := by
  unfold formOk
  rw [h, Bool.true_and]
  rcases h1 with h1 | h1
  · simp [h1]
  · simp [h1]
theorem form_parts {n : Co} {i : Nat} (h : formOk n i = true) : Tr.linksOk (kids n.op) n.a n.b n.c i = true ∧ (high n.op ≠ 0 ∨ n.num = 0) := by
  unfold formOk at h
  rw [Bool.and_eq_true] at h
  refine ⟨h.1, ?_⟩
  by_cases hz : high n.op = 0
  · right; have := h.2; simp [hz] at this; exact this
  · exact .inl hz
theorem node_parts {l : List Co} {i : Nat} (h : nodeF l i = 0) : (1 ≤ (l.getD i zero).op ∧ (l.getD i zero).op ≤ 17) ∧ formOk (l.getD i zero) i = true ∧ valF (l.getD i zero) = 0 ∧ (low (l.getD i zero).op ≤ (l.getD i zero).num ∧ (l.getD i zero).num ≤ high (l.getD i zero).op) := by
  unfold nodeF at h
  split at h
  · cases h
  split at h
  · cases h
  split at h
  · rename_i h3; exact absurd h h3
  split at h
  · cases h
  · rename_i h1 h2 h3 h4
    refine ⟨by omega, ?_, by simpa using h3, by omega⟩
    cases hf : formOk (l.getD i zero) i with
    | true => rfl
    | false => exact absurd hf h2
def nf (l : List Co) : Nat → Int
  | 0 => 0
  | k + 1 => if nf l k = 0 then nodeF l k else nf l k
theorem nf_stop {l : List Co} {k : Nat} (h : nf l k ≠ 0) (m : Nat) (hm : k ≤ m) : nf l m = nf l k := by
  induction m with
  | zero => have : k = 0 := by omega
            subst this; rfl
  | succ m ih =>
    by_cases e : k = m + 1
    · subst e; rfl
    · have := ih (by omega)
      rw [nf, if_neg (by rw [this]; exact h), this]
theorem nf_all {l : List Co} {k : Nat} (h : nf l k = 0) : ∀ i, i < k → nodeF l i = 0 := by
  induction k with
  | zero => intro i hi; omega
  | succ k ih =>
    intro i hi
    rw [nf] at h
    split at h
    · rename_i h0
      by_cases e : i = k
      · subst e; exact h
      · exact ih h0 i (by omega)
    · rename_i h0; exact absurd h h0
theorem nf_next {l : List Co} {k : Nat} (h : nf l k = 0) (h1 : nodeF l k = 0) : nf l (k + 1) = 0 := by rw [nf, if_pos h, h1]
/-- A slot as a text. -/
def slotT (n : Int) : ByteArray := ⟨(List.replicate n.toNat (0 : UInt8)).toArray⟩
theorem slotT_eq {m n : Int} (hm : 0 ≤ m) (hn : 0 ≤ n) : ((slotT m).toList == (slotT n).toList) = (m == n) := by
  have e : ∀ k : Int, (slotT k).toList = List.replicate k.toNat (0 : UInt8) := fun k => by rw [ByteArray.toList_eq]; simp [slotT]
  rw [e, e]
  by_cases h : m = n
  · subst h; simp
  · have h1 : m.toNat ≠ n.toNat := by omega
    have h2 : List.replicate m.toNat (0 : UInt8) ≠ List.replicate n.toNat (0 : UInt8) := fun h => h1 (by have := congrArg List.length h; simpa using this)
    rw [beq_eq_false_iff_ne.2 h2, beq_eq_false_iff_ne.2 h]
/-- The op of a tree's node that names as many and binds alike. -/
def ndOp (op : Int) : Int := if op = 14 then 20 else if op = 13 then 19 else if op = 15 then 21 else if op = 12 then 18 else if (3 ≤ op ∧ op ≤ 7) ∨ op = 11 then 5 else if 8 ≤ op ∧ op ≤ 10 then 12 else 1
def nd (c : Co) : Nd := ⟨ndOp c.op, c.a, c.b, c.c, 0, slotT c.num⟩
theorem nd_kids (op : Int) : Tr.kids (ndOp op) = kids op := by
  by_cases h : 3 ≤ op ∧ op ≤ 15
  · have h2 : op = 3 ∨ op = 4 ∨ op = 5 ∨ op = 6 ∨ op = 7 ∨ op = 8 ∨ op = 9 ∨ op = 10 ∨ op = 11 ∨ op = 12 ∨ op = 13 ∨ op = 14 ∨ op = 15 := by omega
    rcases h2 with rfl | rfl | rfl | rfl | rfl | rfl | rfl | rfl | rfl | rfl | rfl | rfl | rfl <;> decide
  · have e1 : ndOp op = 1 := by unfold ndOp; rw [if_neg (by omega), if_neg (by omega), if_neg (by omega), if_neg (by omega), if_neg (by omega), if_neg (by omega)]
    have e2 : kids op = 0 := by unfold kids; rw [if_neg (by omega), if_neg (by omega), if_neg (by omega)]
    rw [e1, e2]
    decide
def tree (l : List Co) : List Nd := l.map nd
theorem tree_length (l : List Co) : (tree l).length = l.length := by simp [tree]
theorem tree_getD (l : List Co) {i : Nat} (hi : i < l.length) : (tree l).getD i Nd.zero = nd (l.getD i zero) := by
  unfold tree
  rw [List.getD_eq_getElem?_getD, List.getD_eq_getElem?_getD, List.getElem?_map, List.getElem?_eq_getElem hi]
  rfl
theorem tree_links (l : List Co) {i : Nat} (hi : i < l.length) : Tr.links ((tree l).getD i Nd.zero) = [(l.getD i zero).a, (l.getD i zero).b, (l.getD i zero).c].take (kids (l.getD i zero).op) := by
  rw [tree_getD l hi]
  unfold Tr.links
  show List.take (Tr.kids (ndOp _)) _ = _
  rw [nd_kids]
  rfl
theorem fine_of {l : List Co} (h : nf l l.length = 0) : Tr.Fine (tree l) := by
  intro i hi
  rw [tree_length] at hi
  have hp := form_parts (node_parts (nf_all h i hi)).2.1
  rw [tree_getD l hi]
  refine Tr.links_fine (n := nd (l.getD i zero)) ?_
  show Tr.linksOk (Tr.kids (ndOp _)) _ _ _ _ = true
  rw [nd_kids]
  exact hp.1
/-- Does a node bind its slot in what stands at a place? -/
def binds (n : Co) (x : Int) : Bool := (n.op == 14 && n.b == x) || (n.op == 13 && n.c == x)
theorem ndOp_20 (op : Int) : (ndOp op == 20) = (op == 14) := by
  unfold ndOp
  by_cases h : op = 14
  · subst h; rfl
  · rw [if_neg h, beq_eq_false_iff_ne.2 h]
    split; · rfl
    split; · rfl
    split; · rfl
    split; · rfl
    split; · rfl
    rfl
theorem ndOp_19 (op : Int) : (ndOp op == 19) = (op == 13) := by
  unfold ndOp
  by_cases h : op = 14
  · subst h; rfl
  · rw [if_neg h]
    by_cases h3 : op = 13
    · subst h3; rfl
    · rw [if_neg h3, beq_eq_false_iff_ne.2 h3]
      split; · rfl
      split; · rfl
      split; · rfl
      split; · rfl
      rfl
theorem ndOp_21 (op : Int) : (ndOp op == 21) = (op == 15) := by
  unfold ndOp
  by_cases h : op = 15
  · subst h; rfl
  · rw [beq_eq_false_iff_ne.2 h]
    split; · rfl
    split; · rfl
    try rw [if_neg h]
    split; · rfl
    split; · rfl
    split; · rfl
    rfl
theorem nd_binds (n : Co) (x : Int) : Tr.binds (nd n) x = binds n x := by
  unfold Tr.binds binds
  show ((ndOp n.op == 20 && n.b == x) || (ndOp n.op == 19 && n.c == x)) = _
  rw [ndOp_20, ndOp_19]
/-- Is a variable at a place not known? -/
def unk (l : List Co) (i : Nat) : Bool := (l.getD i zero).op == 15 && !Tr.bound (tree l) i (slotT (l.getD i zero).num)
/-- Whether each of the first k is known. -/
def known (l : List Co) (k : Nat) : Bool := (List.range k).all fun i => !unk l i
def fault (l : List Co) : Int :=
  if l.length < 1 ∨ 900 < l.length then 2 else if nf l l.length ≠ 0 then nf l l.length else if Tr.inOrder (tree l) = false then 1 else if known l l.length = false then 4 else if 120 < Tr.dep (tree l) (l.length - 1) then 7 else 0
theorem fault_many {l : List Co} (h : l.length < 1 ∨ 900 < l.length) : fault l = 2 := by unfold fault; rw [if_pos h]
theorem fault_node {l : List Co} (h : ¬ (l.length < 1 ∨ 900 < l.length)) {k : Nat} (hk : k < l.length) (h0 : nf l k = 0) (h1 : nodeF l k ≠ 0) : fault l = nodeF l k := by
  have h2 : nf l (k + 1) = nodeF l k := by rw [nf, if_pos h0]
  have h3 := nf_stop (l := l) (k := k + 1) (by rw [h2]; exact h1) l.length (by omega)
  unfold fault
  rw [if_neg h, if_pos (by rw [h3, h2]; exact h1), h3, h2]
theorem fault_order {l : List Co} (h : ¬ (l.length < 1 ∨ 900 < l.length)) (h0 : nf l l.length = 0) (h1 : Tr.inOrder (tree l) = false) : fault l = 1 := by
  unfold fault; rw [if_neg h, if_neg (by simp [h0]), if_pos h1]
theorem fault_known {l : List Co} (h : ¬ (l.length < 1 ∨ 900 < l.length)) (h0 : nf l l.length = 0) (h1 : Tr.inOrder (tree l) = true) (h2 : known l l.length = false) : fault l = 4 := by
  unfold fault; rw [if_neg h, if_neg (by simp [h0]), if_neg (by rw [h1]; decide), if_pos h2]
theorem fault_deep {l : List Co} (h : ¬ (l.length < 1 ∨ 900 < l.length)) (h0 : nf l l.length = 0) (h1 : Tr.inOrder (tree l) = true) (h2 : known l l.length = true) (h3 : 120 < Tr.dep (tree l) (l.length - 1)) : fault l = 7 := by
  unfold fault; rw [if_neg h, if_neg (by simp [h0]), if_neg (by rw [h1]; decide), if_neg (by rw [h2]; decide), if_pos h3]
theorem fault_ok {l : List Co} (h : ¬ (l.length < 1 ∨ 900 < l.length)) (h0 : nf l l.length = 0) (h1 : Tr.inOrder (tree l) = true) (h2 : known l l.length = true) (h3 : ¬ 120 < Tr.dep (tree l) (l.length - 1)) : fault l = 0 := by
  unfold fault; rw [if_neg h, if_neg (by simp [h0]), if_neg (by rw [h1]; decide), if_neg (by rw [h2]; decide), if_neg h3]
/-- How a core lies in memory: each node's fields, and a row of its own cells. -/
def At (w : World) (b o : Nat) (c : Co) : Prop := w.cell? ⟨b, o, none⟩ = some (.int .i64 c.op) ∧ w.cell? ⟨b, o + 1, none⟩ = some (.int .i64 c.a) ∧ w.cell? ⟨b, o + 2, none⟩ = some (.int .i64 c.b) ∧ w.cell? ⟨b, o + 3, none⟩ = some (.int .i64 c.c) ∧ w.cell? ⟨b, o + 4, none⟩ = some (.int .i64 c.num) ∧ ∃ g : Nat, w.cell? ⟨b, o + 5, none⟩ = some (.slice (some ⟨g, 0, none⟩) c.val.length c.val.length) ∧ g < w.heap.size ∧ Row w g 0 c.val
def Row (w : World) (b : Nat) (l : List Co) : Prop := ∀ i, i < l.length → At w b (i * 6) (l.getD i zero)
theorem Row.below {w w' : World} {b : Nat} {l : List Co} (h : Row w b l) (hb : Below w.heap.size w w') (hB : b < w.heap.size) : Row w' b l := by
  intro i hi
  obtain ⟨h0, h1, h2, h3, h4, g, h5, hg, hr⟩ := h i hi
  exact ⟨(hb.cell (by exact hB)).trans h0, (hb.cell (by exact hB)).trans h1, (hb.cell (by exact hB)).trans h2, (hb.cell (by exact hB)).trans h3, (hb.cell (by exact hB)).trans h4, g, (hb.cell (by exact hB)).trans h5, Nat.lt_of_lt_of_le hg hb.size, hr.below hb hg⟩
/-- What each field must be to lie in memory. -/
def ok (c : Co) : Prop := (-9223372036854775808 ≤ c.op ∧ c.op ≤ 9223372036854775807) ∧ (-9223372036854775808 ≤ c.a ∧ c.a ≤ 9223372036854775807) ∧ (-9223372036854775808 ≤ c.b ∧ c.b ≤ 9223372036854775807) ∧ (-9223372036854775808 ≤ c.c ∧ c.c ≤ 9223372036854775807) ∧ (-9223372036854775808 ≤ c.num ∧ c.num ≤ 9223372036854775807) ∧ ∀ x ∈ c.val, x.ok
end Co

end Go.Proofs.YtgjbibkppofjfaaDoor

namespace Go.Proofs.YtgjbibkppofjfaaDoor
open Go.RowKit
set_option linter.unusedVariables false
set_option linter.unusedSimpArgs false

namespace Cm
/-- What was laid so far, and how many registers are taken. -/
structure St where
  ins : List Ic
  regs : Int
def St.put (s : St) (op arg : Int) : St := ⟨s.ins ++ [⟨op, arg, []⟩], s.regs⟩
def St.val (s : St) (op : Int) (v : List M.Cl) : St := ⟨s.ins ++ [⟨op, 0, v⟩], s.regs⟩
/-- The instruction at k goes to the place that comes next. -/
def St.here (s : St) (k : Nat) : St := ⟨s.ins.set k ⟨(s.ins.getD k Ic.zero).op, (s.ins.length : Int), (s.ins.getD k Ic.zero).val⟩, s.regs⟩
def St.reg (s : St) : St := ⟨s.ins, s.regs + 1⟩
def St.len (s : St) : Nat := s.ins.length
def kindV (k : Int) : List M.Cl := [⟨k, 0, ByteArray.empty, ByteArray.empty, 0⟩]
abbrev Rec := Int → List Int → St → St
/-- Two nodes, of which the second is done where this instruction goes to its Arg. -/
def either (rec : Rec) (op a b : Int) (rs : List Int) (s : St) : St :=
  let s2 := rec a rs (s.put op 0)
  let s4 := (s2.put 10 0).here s.len
  (rec b rs s4).here s2.len
/-- Two nodes of one value. -/
def pair (rec : Rec) (a b : Int) (rs : List Int) (s : St) : St := rec b rs ((rec a rs (s.put 1 0)).put 4 0)
def list (rec : Rec) (a : Int) (rs : List Int) (s : St) : St :=
  let s1 := (s.reg.val 3 (kindV 5)).put 16 s.regs
  let s2 := rec a rs (s1.put 12 0)
  ((((s2.put 18 s.regs).put 15 0).here s1.len).put 2 0).put 17 s.regs
def asV (rec : Rec) (a b num : Int) (rs : List Int) (s : St) : St :=
  rec b (rs.set num.toNat s.regs) ((rec a rs (s.reg.put 1 0)).put 16 s.regs)
def reduce (rec : Rec) (a b c num : Int) (rs : List Int) (s : St) : St :=
  let s1 := (rec b rs (s.reg.reg.put 1 0)).put 16 s.regs
  let s2 := rec a rs (s1.put 12 0)
  let s3 := (((s2.put 16 (s.regs + 1)).put 17 s.regs).val 3 (kindV 0)).put 16 s.regs
  let s4 := rec c (rs.set num.toNat (s.regs + 1)) s3
  ((((s4.put 16 s.regs).put 15 0).here s1.len).put 2 0).put 17 s.regs
def alt (rec : Rec) (a b : Int) (rs : List Int) (s : St) : St :=
  let s1 := (s.reg.val 3 (kindV 1)).put 16 s.regs
  let s2 := (rec a rs (s1.put 14 0)).put 1 0
  let s3 := ((s2.put 11 0).val 3 (kindV 2)).put 16 s.regs
  let s4 := ((((s3.put 10 0).here s2.len).put 15 0).here s1.len).put 17 s.regs
  let s5 := ((s4.put 11 0).put 15 0).here s4.len
  (rec b rs s5).here s3.len
/-- The code of one node. -/
def one (rec : Rec) (c : Co) (rs : List Int) (s : St) : St :=
  if c.op = 2 then (s.put 2 0).val 3 c.val
  else if c.op = 17 then s.put 15 0
  else if c.op = 15 then (s.put 2 0).put 17 (rs.getD c.num.toNat 0)
  else if c.op = 16 then s.put 8 c.num
  else if c.op = 3 then rec c.b rs (rec c.a rs s)
  else if c.op = 4 then either rec 12 c.a c.b rs s
  else if c.op = 12 then either rec 11 c.b c.c rs (rec c.a rs (s.put 1 0))
  else if c.op = 6 then (pair rec c.b c.a rs s).put 5 c.num
  else if c.op = 7 then (pair rec c.a c.b rs s).put 6 0
  else if c.op = 11 then (pair rec c.a c.b rs s).val 9 c.val
  else if c.op = 8 then (rec c.a rs s).put 7 0
  else if c.op = 9 then (rec c.a rs (s.put 13 0)).here s.len
  else if c.op = 10 then list rec c.a rs s
  else if c.op = 13 then reduce rec c.a c.b c.c c.num rs s
  else if c.op = 5 then alt rec c.a c.b rs s
  else if c.op = 14 then asV rec c.a c.b c.num rs s
  else s
def code (l : List Co) : Nat → Rec
  | 0 => fun _ _ s => s
  | f + 1 => fun i rs s => one (code l f) (l.getD i.toNat Co.zero) rs s
/-- What CompileCore answers where the core has no fault. -/
def made (l : List Co) : St := (code l l.length ((l.length : Int) - 1) (List.replicate 60 0) ⟨[], 0⟩).put 19 0
def compileOut (l : List Co) : Int × List Ic × Int :=
  if Co.fault l ≠ 0 then (Co.fault l, [], 0)
  else if 6000 < (made l).len ∨ 1000 < (made l).regs then (2, [], 0)
  else (0, (made l).ins, (made l).regs)
theorem put_len (s : St) (op arg : Int) : (s.put op arg).len = s.len + 1 := by simp [St.put, St.len]
theorem val_len (s : St) (op : Int) (v : List M.Cl) : (s.val op v).len = s.len + 1 := by simp [St.val, St.len]
theorem here_len (s : St) (k : Nat) : (s.here k).len = s.len := by simp [St.here, St.len]
theorem reg_len (s : St) : s.reg.len = s.len := rfl
theorem put_regs (s : St) (op arg : Int) : (s.put op arg).regs = s.regs := rfl
theorem val_regs (s : St) (op : Int) (v : List M.Cl) : (s.val op v).regs = s.regs := rfl
theorem here_regs (s : St) (k : Nat) : (s.here k).regs = s.regs := rfl
theorem reg_regs (s : St) : s.reg.regs = s.regs + 1 := rfl
/-- No less than before, and no more than that and g. -/
def Up (g : Nat) (s t : St) : Prop := s.len ≤ t.len ∧ t.len ≤ s.len + 14 * g ∧ s.regs ≤ t.regs ∧ t.regs ≤ s.regs + 2 * (g : Int)
/-- How many nodes are laid below a node. -/
def sz (l : List Co) : Nat → Int → Nat
  | 0, _ => 0
  | f + 1, i =>
    let c := l.getD i.toNat Co.zero
    1 + (if 1 ≤ Co.kids c.op then sz l f c.a else 0) + (if 2 ≤ Co.kids c.op then sz l f c.b else 0) + (if 3 ≤ Co.kids c.op then sz l f c.c else 0)
/-- The same, counted on the way: n instructions, r registers, and what g nodes lay. -/
structure UpN (n r g : Nat) (s t : St) : Prop where
  lo : s.len ≤ t.len
  hi : t.len ≤ s.len + n + 14 * g
  rlo : s.regs ≤ t.regs
  rhi : t.regs ≤ s.regs + (r : Int) + 2 * (g : Int)
theorem UpN.refl (s : St) : UpN 0 0 0 s s := ⟨by omega, by omega, by omega, by omega⟩
theorem UpN.put {n r g : Nat} {s t : St} (h : UpN n r g s t) (op arg : Int) : UpN (n + 1) r g s (t.put op arg) := ⟨by rw [put_len]; have := h.lo; omega, by rw [put_len]; have := h.hi; omega, h.rlo, h.rhi⟩
theorem UpN.val {n r g : Nat} {s t : St} (h : UpN n r g s t) (op : Int) (v : List M.Cl) : UpN (n + 1) r g s (t.val op v) := ⟨by rw [val_len]; have := h.lo; omega, by rw [val_len]; have := h.hi; omega, h.rlo, h.rhi⟩
theorem UpN.here {n r g : Nat} {s t : St} (h : UpN n r g s t) (k : Nat) : UpN n r g s (t.here k) := ⟨by rw [here_len]; exact h.lo, by rw [here_len]; exact h.hi, h.rlo, h.rhi⟩
theorem UpN.reg {n r g : Nat} {s t : St} (h : UpN n r g s t) : UpN n (r + 1) g s t.reg := ⟨h.lo, h.hi, by rw [reg_regs]; have := h.rlo; omega, by rw [reg_regs]; have := h.rhi; omega⟩
theorem UpN.go {n r g k : Nat} {s t u : St} (h : UpN n r g s t) (h2 : Up k t u) : UpN n r (g + k) s u := by
  obtain ⟨a1, a2, a3, a4⟩ := h
  obtain ⟨b1, b2, b3, b4⟩ := h2
  exact ⟨by omega, by omega, by omega, by omega⟩
theorem UpN.up {n r g k : Nat} {s t : St} (h : UpN n r g s t) (h1 : n ≤ 14) (h2 : r ≤ 2) (h3 : k = 1 + g) : Up k s t := by
  obtain ⟨a1, a2, a3, a4⟩ := h
  exact ⟨by omega, by omega, by omega, by omega⟩
section
variable {rec : Rec} {z : Int → Nat} (h : ∀ i rs s, Up (z i) s (rec i rs s))
include h
theorem either_up {n r g : Nat} {s0 s : St} (h0 : UpN n r g s0 s) (op a b : Int) (rs : List Int) : UpN (n + 2) r (g + z a + z b) s0 (either rec op a b rs s) :=
  ((((((h0.put op 0).go (h a rs _)).put 10 0).here _).go (h b rs _)).here _)
theorem pair_up (a b : Int) (rs : List Int) (s : St) : UpN 2 0 (0 + z a + z b) s (pair rec a b rs s) :=
  ((((UpN.refl s).put 1 0).go (h a rs _)).put 4 0).go (h b rs _)
theorem list_up (a : Int) (rs : List Int) (s : St) : UpN 7 1 (0 + z a) s (list rec a rs s) :=
  (((((((((UpN.refl s).reg.val 3 _).put 16 _).put 12 0).go (h a rs _)).put 18 _).put 15 0).here _).put 2 0).put 17 _
theorem as_up (a b num : Int) (rs : List Int) (s : St) : UpN 2 1 (0 + z a + z b) s (asV rec a b num rs s) :=
  ((((UpN.refl s).reg.put 1 0).go (h a rs _)).put 16 _).go (h b _ _)
theorem reduce_up (a b c num : Int) (rs : List Int) (s : St) : UpN 11 2 (0 + z b + z a + z c) s (reduce rec a b c num rs s) :=
  ((((((((((((((((UpN.refl s).reg.reg.put 1 0).go (h b rs _)).put 16 _).put 12 0).go (h a rs _)).put 16 _).put 17 _).val 3 _).put 16 _).go (h c _ _)).put 16 _).put 15 0).here _).put 2 0).put 17 _)
theorem alt_up (a b : Int) (rs : List Int) (s : St) : UpN 12 1 (0 + z a + z b) s (alt rec a b rs s) :=
  (((((((((((((((((((UpN.refl s).reg.val 3 _).put 16 _).put 14 0).go (h a rs _)).put 1 0).put 11 0).val 3 _).put 16 _).put 10 0).here _).put 15 0).here _).put 17 _).put 11 0).put 15 0).here _).go (h b rs _)).here _)
theorem one_up (c : Co) (rs : List Int) (s : St) :
    Up (1 + (if 1 ≤ Co.kids c.op then z c.a else 0) + (if 2 ≤ Co.kids c.op then z c.b else 0) + (if 3 ≤ Co.kids c.op then z c.c else 0)) s (one rec c rs s) := by
  obtain ⟨op, a, b, c3, num, val⟩ := c
  dsimp only
  by_cases hb : 2 ≤ op ∧ op ≤ 17
  case neg =>
    have hk : Co.kids op = 0 := by unfold Co.kids; rw [if_neg (by omega), if_neg (by omega), if_neg (by omega)]
    have e : one rec ⟨op, a, b, c3, num, val⟩ rs s = s := by
      unfold one
      dsimp only
      rw [if_neg (by omega), if_neg (by omega), if_neg (by omega), if_neg (by omega), if_neg (by omega), if_neg (by omega), if_neg (by omega), if_neg (by omega), if_neg (by omega), if_neg (by omega), if_neg (by omega), if_neg (by omega), if_neg (by omega), if_neg (by omega), if_neg (by omega), if_neg (by omega)]
    rw [e, hk]
    exact (UpN.refl s).up (by omega) (by omega) (by simp)
  case pos =>
    have hh : op = 2 ∨ op = 3 ∨ op = 4 ∨ op = 5 ∨ op = 6 ∨ op = 7 ∨ op = 8 ∨ op = 9 ∨ op = 10 ∨ op = 11 ∨ op = 12 ∨ op = 13 ∨ op = 14 ∨ op = 15 ∨ op = 16 ∨ op = 17 := by omega
    clear hb
    rcases hh with rfl | rfl | rfl | rfl | rfl | rfl | rfl | rfl | rfl | rfl | rfl | rfl | rfl | rfl | rfl | rfl
    · exact (((UpN.refl s).put 2 0).val 3 val).up (by omega) (by omega) (by simp [Co.kids])
    · exact (((UpN.refl s).go (h a rs s)).go (h b rs _)).up (by omega) (by omega) (by simp [Co.kids]; omega)
    · exact (either_up h (UpN.refl s) 12 a b rs).up (by omega) (by omega) (by simp [Co.kids]; omega)
    · exact (alt_up h a b rs s).up (by omega) (by omega) (by simp [Co.kids]; omega)
    · exact ((pair_up h b a rs s).put 5 num).up (by omega) (by omega) (by simp [Co.kids]; omega)
    · exact ((pair_up h a b rs s).put 6 0).up (by omega) (by omega) (by simp [Co.kids]; omega)
    · exact (((UpN.refl s).go (h a rs s)).put 7 0).up (by omega) (by omega) (by simp [Co.kids])
    · exact ((((UpN.refl s).put 13 0).go (h a rs _)).here _).up (by omega) (by omega) (by simp [Co.kids])
    · exact (list_up h a rs s).up (by omega) (by omega) (by simp [Co.kids])
    · exact ((pair_up h a b rs s).val 9 val).up (by omega) (by omega) (by simp [Co.kids]; omega)
    · exact (either_up h (((UpN.refl s).put 1 0).go (h a rs _)) 11 b c3 rs).up (by omega) (by omega) (by simp [Co.kids]; omega)
    · exact (reduce_up h a b c3 num rs s).up (by omega) (by omega) (by simp [Co.kids]; omega)
    · exact (as_up h a b num rs s).up (by omega) (by omega) (by simp [Co.kids]; omega)
    · exact (((UpN.refl s).put 2 0).put 17 _).up (by omega) (by omega) (by simp [Co.kids])
    · exact ((UpN.refl s).put 8 num).up (by omega) (by omega) (by simp [Co.kids])
    · exact ((UpN.refl s).put 15 0).up (by omega) (by omega) (by simp [Co.kids])
end
theorem code_up (l : List Co) : ∀ (f : Nat) (i : Int) (rs : List Int) (s : St), Up (sz l f i) s (code l f i rs s)
  | 0, i, rs, s => ⟨Nat.le_refl _, by simp [code], by simp [code], by simp [code, sz]⟩
  | f + 1, i, rs, s => one_up (code_up l f) (l.getD i.toNat Co.zero) rs s
/-- As many nodes are laid as stand in the tree's order. -/
theorem sz_ord {l : List Co} (hf : Tr.Fine (Co.tree l)) : ∀ (f i : Nat), i < l.length → sz l f (i : Int) = (Tr.ordF f (Co.tree l) i).length
  | 0, _, _ => rfl
  | f + 1, i, hi => by
    have hF := hf i (by rw [Co.tree_length]; exact hi)
    rw [sz, Tr.ordF, List.length_append, Co.tree_links l hi]
    rw [Co.tree_links l hi] at hF
    rw [Int.toNat_natCast]
    generalize l.getD i Co.zero = c at *
    have key : ∀ x ∈ [c.a, c.b, c.c].take (Co.kids c.op), sz l f x = (Tr.ordF f (Co.tree l) x.toNat).length := fun x hx => by
      have := hF x hx
      have e := sz_ord hf f x.toNat (by omega)
      rw [Int.toNat_of_nonneg this.1] at e
      exact e
    have hk : Co.kids c.op = 0 ∨ Co.kids c.op = 1 ∨ Co.kids c.op = 2 ∨ Co.kids c.op = 3 := by
      have h3 : Co.kids c.op ≤ 3 := by rw [← Co.nd_kids]; exact Tr.kids_le _
      omega
    rcases hk with hk | hk | hk | hk <;> rw [hk] at key ⊢ <;> simp at key ⊢ <;> omega
theorem made_bd {l : List Co} (hf : Tr.Fine (Co.tree l)) (h0 : 0 < l.length) (ho : Tr.ord (Co.tree l) (l.length - 1) = Tr.up 0 l.length) : (made l).len ≤ 14 * l.length + 1 ∧ 0 ≤ (made l).regs ∧ (made l).regs ≤ 2 * (l.length : Int) := by
  have hu := code_up l l.length ((l.length : Int) - 1) (List.replicate 60 0) ⟨[], 0⟩
  have hz := sz_ord hf l.length (l.length - 1) (by omega)
  have e : ((l.length - 1 : Nat) : Int) = (l.length : Int) - 1 := by omega
  unfold Tr.ord at ho
  rw [show l.length - 1 + 1 = l.length by omega] at ho
  rw [e, ho, Tr.up_length] at hz
  rw [hz] at hu
  obtain ⟨_, h2, h3, h4⟩ := hu
  unfold made
  rw [put_len, put_regs]
  simp only [St.len, List.length_nil] at h2 h3 h4 ⊢
  exact ⟨by omega, by simpa using h3, by simpa using h4⟩
end Cm
end Go.Proofs.YtgjbibkppofjfaaDoor
