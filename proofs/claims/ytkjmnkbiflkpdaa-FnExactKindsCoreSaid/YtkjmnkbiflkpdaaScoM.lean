/-
  Names that are known, plainly: who names a place, what is bound there, which nodes are not known.
-/
import Derived.Test.YtkjmnkbiflkpdaaTreP
namespace Go.Proofs.Ytkjmnkbiflkpdaa
open Go.RowKit
set_option linter.unusedVariables false
set_option linter.unusedSimpArgs false

namespace Tr
/-- Does a node bind its variable in what stands at a place? -/
def binds (n : Nd) (x : Int) : Bool := (n.op == 20 && n.b == x) || (n.op == 19 && n.c == x)
/-- Which node names a place, by the first k; -1: none yet. -/
def holdK (l : List Nd) : Nat → Nat → Int
  | 0, _ => 0
  | k + 1, j => if (j : Int) ∈ links (l.getD k Nd.zero) then k else if j = k then -1 else holdK l k j
def hold (l : List Nd) (j : Nat) : Int := holdK l l.length j
def boundF (l : List Nd) : Nat → Nat → ByteArray → Bool
  | 0, _, _ => false
  | f + 1, x, t => if hold l x < 0 then false else if (binds (l.getD (hold l x).toNat Nd.zero) x && ((l.getD (hold l x).toNat Nd.zero).text.toList == t.toList)) = true then true else boundF l f (hold l x).toNat t
def bound (l : List Nd) (x : Nat) (t : ByteArray) : Bool := boundF l l.length x t

theorem stk_part {l : List Nd} {k : Nat} {st : List Int} (h : stk l (k + 1) = some st) : ∃ s, stk l k = some s ∧ ∃ r, s = r ++ links (l.getD k Nd.zero) ∧ st = r ++ [(k : Int)] := by
  cases e : stk l k with
  | none => rw [stk, e] at h; simp at h
  | some s =>
    rw [stk_step e] at h
    split at h
    · rename_i hc
      simp only [Option.some.injEq] at h
      refine ⟨s, rfl, s.take (s.length - (links (l.getD k Nd.zero)).length), ?_, h.symm⟩
      conv => lhs; rw [← List.take_append_drop (s.length - (links (l.getD k Nd.zero)).length) s]
      rw [hc.2]
    · simp at h
theorem stk_up {l : List Nd} (k : Nat) : ∀ st, stk l k = some st → st.Pairwise (· < ·) ∧ ∀ x ∈ st, x < k := by
  induction k with
  | zero => intro st h; simp [stk] at h; subst h; simp
  | succ k ih =>
    intro st h
    obtain ⟨s, hs, r, e1, e2⟩ := stk_part h
    obtain ⟨h1, h2⟩ := ih s hs
    subst e2
    rw [e1] at h1 h2
    have h3 := List.pairwise_append.1 h1
    refine ⟨List.pairwise_append.2 ⟨h3.1, by simp, fun a ha b hb => ?_⟩, fun x hx => ?_⟩
    · simp at hb; subst hb; exact h2 a (by simp [ha])
    · rcases List.mem_append.1 hx with hx | hx
      · have := h2 x (by simp [hx]); omega
      · simp at hx; omega
theorem stk_some_le {l : List Nd} {k m : Nat} {st : List Int} (h : stk l m = some st) (hk : k ≤ m) : ∃ s, stk l k = some s := by
  cases e : stk l k with
  | none => rw [stk_none_le e hk] at h; simp at h
  | some s => exact ⟨s, rfl⟩
theorem stk_gone {l : List Nd} {k : Nat} {x : Int} (hx : x < k) : ∀ m, k ≤ m → ∀ st st', stk l k = some st → stk l m = some st' → x ∉ st → x ∉ st' := by
  intro m hm
  induction m with
  | zero =>
    intro st st' h h' hn
    have : k = 0 := by omega
    subst this
    rw [h] at h'; simp only [Option.some.injEq] at h'; subst h'; exact hn
  | succ m ih =>
    intro st st' h h' hn
    by_cases e : k = m + 1
    · subst e; rw [h] at h'; simp only [Option.some.injEq] at h'; subst h'; exact hn
    · obtain ⟨s, hs, r, e1, e2⟩ := stk_part h'
      have := ih (by omega) st s h hs hn
      rw [e1] at this
      subst e2
      intro hc
      rcases List.mem_append.1 hc with hc | hc
      · exact this (by simp [hc])
      · simp at hc; omega
/-- In a tree in order, a place is named once. -/
theorem named_once {l : List Nd} {st : List Int} (hs : stk l l.length = some st) {at1 at2 : Nat} {x : Int} (h1 : at1 < l.length) (h2 : at2 < l.length) (hx1 : x ∈ links (l.getD at1 Nd.zero)) (hx2 : x ∈ links (l.getD at2 Nd.zero)) : at1 = at2 := by
  have key : ∀ a b, a < b → b < l.length → x ∈ links (l.getD a Nd.zero) → x ∈ links (l.getD b Nd.zero) → False := by
    intro a b hab hb ha hb2
    obtain ⟨sa, hsa⟩ := stk_some_le hs (show a + 1 ≤ l.length by omega)
    obtain ⟨s, hs1, r, e1, e2⟩ := stk_part hsa
    obtain ⟨u1, u2⟩ := stk_up a s hs1
    have hxa : x < a := by rw [e1] at u2; exact u2 x (List.mem_append_right _ ha)
    have hn : x ∉ sa := by
      rw [e2]
      rw [e1] at u1
      intro hc
      rcases List.mem_append.1 hc with hc | hc
      · have := (List.pairwise_append.1 u1).2.2 x hc x ha
        omega
      · simp at hc; omega
    obtain ⟨sb, hsb⟩ := stk_some_le hs (show b + 1 ≤ l.length by omega)
    obtain ⟨s2, hs2, r2, e3, e4⟩ := stk_part hsb
    have := stk_gone (k := a + 1) (x := x) (by omega) b (by omega) sa s2 hsa hs2 hn
    rw [e3] at this
    exact this (List.mem_append_right _ hb2)
  rcases Nat.lt_trichotomy at1 at2 with h | h | h
  · exact absurd (key _ _ h h2 hx1 hx2) id
  · exact h
  · exact absurd (key _ _ h h1 hx2 hx1) id
theorem order_stk {l : List Nd} (h : inOrder l = true) : ∃ st, stk l l.length = some st := by
  unfold inOrder at h
  cases e : stk l l.length with
  | none => rw [e] at h; simp at h
  | some st => exact ⟨st, rfl⟩
theorem links_up {l : List Nd} (h : inOrder l = true) {i : Nat} (hi : i < l.length) : (links (l.getD i Nd.zero)).Pairwise (· < ·) := by
  obtain ⟨st, hs⟩ := order_stk h
  obtain ⟨s1, h1⟩ := stk_some_le hs (show i + 1 ≤ l.length by omega)
  obtain ⟨s, hs1, r, e1, e2⟩ := stk_part h1
  have := (stk_up i s hs1).1
  rw [e1] at this
  exact (List.pairwise_append.1 this).2.1
theorem hold_kid {l : List Nd} (hf : Fine l) (ho : inOrder l = true) {i : Nat} (hi : i < l.length) {x : Nat} (hx : (x : Int) ∈ links (l.getD i Nd.zero)) : hold l x = i := by
  obtain ⟨st, hs⟩ := order_stk ho
  have hb := hf i hi _ hx
  have key : ∀ d, i + 1 + d ≤ l.length → holdK l (i + 1 + d) x = i := by
    intro d
    induction d with
    | zero => intro _; rw [Nat.add_zero, holdK, if_pos hx]
    | succ d ih =>
      intro hd
      rw [show i + 1 + (d + 1) = (i + 1 + d) + 1 by omega, holdK, if_neg, if_neg (by omega)]
      · exact ih (by omega)
      · intro hc
        have := named_once hs hi (show i + 1 + d < l.length by omega) hx hc
        omega
  have := key (l.length - (i + 1)) (by omega)
  rw [show i + 1 + (l.length - (i + 1)) = l.length by omega] at this
  exact this
theorem hold_root {l : List Nd} (hf : Fine l) (h0 : 0 < l.length) : hold l (l.length - 1) = -1 := by
  unfold hold
  obtain ⟨k, hk⟩ : ∃ k, l.length = k + 1 := ⟨l.length - 1, by omega⟩
  rw [hk, Nat.add_sub_cancel, holdK, if_neg, if_pos rfl]
  intro hc
  have := hf k (by omega) _ hc
  omega
/-- Who holds a place stands behind it. -/
theorem holdK_up {l : List Nd} (hf : Fine l) (k : Nat) (hk : k ≤ l.length) (x : Nat) (hx : x < k) : holdK l k x < 0 ∨ ((x : Int) < holdK l k x ∧ holdK l k x < k) := by
  induction k with
  | zero => omega
  | succ k ih =>
    rw [holdK]
    split
    · rename_i hc; have := hf k (by omega) _ hc; right; omega
    · split
      · left; omega
      · rcases ih (by omega) (by omega) with h | h
        · exact .inl h
        · right; omega
theorem hold_up {l : List Nd} (hf : Fine l) (x : Nat) (hx : x < l.length) : hold l x < 0 ∨ ((x : Int) < hold l x ∧ hold l x < l.length) := holdK_up hf l.length (Nat.le_refl _) x hx
theorem boundF_eq {l : List Nd} (hf : Fine l) (t : ByteArray) (f : Nat) : ∀ g x, x < l.length → l.length - x ≤ f → l.length - x ≤ g → boundF l f x t = boundF l g x t := by
  induction f with
  | zero => intro g x hx h; omega
  | succ f ih =>
    intro g x hx h1 h2
    obtain ⟨g, rfl⟩ : ∃ k, g = k + 1 := ⟨g - 1, by omega⟩
    rw [boundF, boundF]
    by_cases hn : hold l x < 0
    · rw [if_pos hn, if_pos hn]
    · rw [if_neg hn, if_neg hn]
      have := hold_up hf x hx
      rw [ih g (hold l x).toNat (by omega) (by omega) (by omega)]
theorem bound_step {l : List Nd} (hf : Fine l) (x : Nat) (hx : x < l.length) (t : ByteArray) : bound l x t = if hold l x < 0 then false else if (binds (l.getD (hold l x).toNat Nd.zero) x && ((l.getD (hold l x).toNat Nd.zero).text.toList == t.toList)) = true then true else bound l (hold l x).toNat t := by
  unfold bound
  obtain ⟨k, hk⟩ : ∃ k, l.length = k + 1 := ⟨l.length - 1, by omega⟩
  conv => lhs; rw [hk, boundF]
  by_cases hn : hold l x < 0
  · rw [if_pos hn, if_pos hn]
  · rw [if_neg hn, if_neg hn]
    have := hold_up hf x hx
    rw [boundF_eq hf t k l.length (hold l x).toNat (by omega) (by omega) (by omega)]
theorem bound_kid {l : List Nd} (hf : Fine l) (ho : inOrder l = true) {i : Nat} (hi : i < l.length) {x : Nat} (hx : (x : Int) ∈ links (l.getD i Nd.zero)) (t : ByteArray) : bound l x t = ((binds (l.getD i Nd.zero) x && ((l.getD i Nd.zero).text.toList == t.toList)) || bound l i t) := by
  have hb := hf i hi _ hx
  rw [bound_step hf x (by omega), hold_kid hf ho hi hx, if_neg (by omega), Int.toNat_natCast]
  cases (binds (l.getD i Nd.zero) x && ((l.getD i Nd.zero).text.toList == t.toList)) <;> simp
theorem bound_root {l : List Nd} (hf : Fine l) (h0 : 0 < l.length) (t : ByteArray) : bound l (l.length - 1) t = false := by
  rw [bound_step hf _ (by omega), hold_root hf h0, if_pos (by omega)]
/-- Which of what a node names it binds its variable in. -/
theorem binds_kid {l : List Nd} (ho : inOrder l = true) {i : Nat} (hi : i < l.length) {j : Nat} (hj : j < kids (l.getD i Nd.zero).op) : binds (l.getD i Nd.zero) (kidAt (l.getD i Nd.zero) j) = (((l.getD i Nd.zero).op == 20 && j == 1) || ((l.getD i Nd.zero).op == 19 && j == 2)) := by
  have hu := links_up ho hi
  generalize l.getD i Nd.zero = n at *
  unfold binds
  by_cases h20 : n.op = 20
  · have hk : kids n.op = 2 := by rw [h20]; decide
    unfold links at hu
    rw [hk] at hu hj
    simp at hu
    have hh : j = 0 ∨ j = 1 := by omega
    rw [h20]
    rcases hh with rfl | rfl
    · have : ¬ n.b = n.a := by omega
      simp [kidAt, this]
    · simp [kidAt]
  · by_cases h19 : n.op = 19
    · have hk : kids n.op = 3 := by rw [h19]; decide
      unfold links at hu
      rw [hk] at hu hj
      simp at hu
      have hh : j = 0 ∨ j = 1 ∨ j = 2 := by omega
      rw [h19]
      rcases hh with rfl | rfl | rfl
      · have : ¬ n.c = n.a := by omega
        simp [kidAt, this]
      · have : ¬ n.c = n.b := by omega
        simp [kidAt, this]
      · simp [kidAt]
    · have e1 : (n.op == 20) = false := by simpa using h20
      have e2 : (n.op == 19) = false := by simpa using h19
      rw [e1, e2]; rfl
end Tr
namespace Tr
def theCalls : List ByteArray := [⟨#[108, 101, 110, 103, 116, 104]⟩, ⟨#[107, 101, 121, 115]⟩, ⟨#[110, 111, 116]⟩, ⟨#[101, 109, 112, 116, 121]⟩, ⟨#[101, 114, 114, 111, 114]⟩, ⟨#[116, 121, 112, 101]⟩, ⟨#[115, 111, 114, 116]⟩, ⟨#[97, 100, 100]⟩]
def theOnes : List ByteArray := [⟨#[109, 97, 112]⟩, ⟨#[115, 101, 108, 101, 99, 116]⟩, ⟨#[114, 97, 110, 103, 101]⟩]
def callOk (n : Nd) : Bool := if n.op = 22 then oneOf theCalls n.text else if n.op = 23 then oneOf theOnes n.text else true
/-- A node is not known. -/
def unk (l : List Nd) (i : Nat) : Bool := !callOk (l.getD i Nd.zero) || ((l.getD i Nd.zero).op == 21 && !bound l i (l.getD i Nd.zero).text)
def unkI (l : List Nd) (x : Int) : Bool := unk l x.toNat
def scopeOut (l : List Nd) : Int × Int := if fault l ≠ 0 then (fault l, 0) else match ((up 0 l.length).filter (unkI l)).head? with | some x => (4, x) | none => (0, 0)
theorem scope_fault {l : List Nd} (h : fault l ≠ 0) : scopeOut l = (fault l, 0) := by unfold scopeOut; rw [if_pos h]
theorem filter_first {l : List Nd} (k n : Nat) (hk : k < n) (h : ∀ j, j < k → unk l j = false) (hu : unk l k = true) : ((up 0 n).filter (unkI l)).head? = some (k : Int) := by
  have e : up 0 n = up 0 k ++ ([(k : Int)] ++ up (k + 1) (n - (k + 1))) := by
    rw [show n = k + (1 + (n - (k + 1))) by omega, up_add, up_add, up_one]
    simp
    congr 1; omega
  rw [e, List.filter_append, List.filter_append]
  have e1 : (up 0 k).filter (unkI l) = [] := by
    rw [List.filter_eq_nil_iff]
    intro x hx
    obtain ⟨j, hj, rfl⟩ : ∃ j, j < k ∧ x = (j : Int) := by
      unfold up at hx
      rw [List.mem_map] at hx
      obtain ⟨j, hj, rfl⟩ := hx
      rw [List.mem_range'_1] at hj
      exact ⟨j, by omega, rfl⟩
    unfold unkI
    rw [Int.toNat_natCast, h j hj]; simp
  rw [e1]
  simp [unkI, hu]
theorem filter_none {l : List Nd} (n : Nat) (h : ∀ j, j < n → unk l j = false) : (up 0 n).filter (unkI l) = [] := by
  rw [List.filter_eq_nil_iff]
  intro x hx
  unfold up at hx
  rw [List.mem_map] at hx
  obtain ⟨j, hj, rfl⟩ := hx
  rw [List.mem_range'_1] at hj
  unfold unkI
  rw [Int.toNat_natCast, h j (by omega)]; simp
theorem scope_first {l : List Nd} (hf : fault l = 0) {k : Nat} (hk : k < l.length) (h : ∀ j, j < k → unk l j = false) (hu : unk l k = true) : scopeOut l = (4, (k : Int)) := by
  unfold scopeOut; rw [if_neg (by simpa using hf), filter_first k l.length hk h hu]
theorem scope_none {l : List Nd} (hf : fault l = 0) (h : ∀ j, j < l.length → unk l j = false) : scopeOut l = (0, 0) := by
  unfold scopeOut; rw [if_neg (by simpa using hf), filter_none l.length h]; rfl
theorem scope_list {l : List Nd} (hf : fault l = 0) {L : List Int} (h : L = (up 0 l.length).filter (unkI l)) : scopeOut l = match L.head? with | some x => (4, x) | none => (0, 0) := by
  unfold scopeOut; rw [if_neg (by simpa using hf), h]
theorem fault_parts {l : List Nd} (h : fault l = 0) : 0 < l.length ∧ l.length ≤ 200 ∧ nf l l.length = 0 ∧ inOrder l = true := by
  unfold fault at h
  split at h; · exact absurd h (by decide)
  rename_i h1
  split at h; · rename_i h2; exact absurd h h2
  rename_i h2
  split at h; · exact absurd h (by decide)
  rename_i h3
  exact ⟨by omega, by omega, by simpa using h2, by simpa using h3⟩
/-- What is not known, behind the first j that a node names. -/
def scoK (f : Nat) (l : List Nd) (n : Nd) (out : List Int) (j : Nat) : List Int := out ++ (((links n).take j).flatMap (fun x => ordF f l x.toNat)).filter (unkI l)
theorem scoK_zero (f : Nat) (l : List Nd) (n : Nd) (out : List Int) : scoK f l n out 0 = out := by unfold scoK; simp
theorem scoK_succ (f : Nat) (l : List Nd) (n : Nd) (out : List Int) (j : Nat) (hj : j < kids n.op) : scoK f l n out (j + 1) = scoK f l n out j ++ (ordF f l (kidAt n j).toNat).filter (unkI l) := by
  unfold scoK
  have h : j < (links n).length := by rw [links_length]; exact hj
  have e : (links n)[j] = kidAt n j := by
    have := links_getD n j hj
    rw [List.getD_eq_getElem?_getD, List.getElem?_eq_getElem h] at this
    exact this
  rw [List.take_succ_eq_append_getElem h, List.flatMap_append, List.filter_append, e]
  simp
theorem scoK_all (f : Nat) (l : List Nd) (out : List Int) (i : Nat) : out ++ (ordF (f + 1) l i).filter (unkI l) = scoK f l (l.getD i Nd.zero) out (kids (l.getD i Nd.zero).op) ++ (if unk l i = true then [(i : Int)] else []) := by
  unfold scoK
  rw [ordF, List.take_of_length_le (by rw [links_length]; exact Nat.le_refl _), List.filter_append, List.append_assoc]
  congr 2
  cases h : unk l i <;> simp [unkI, h]
theorem oneOf_snoc (ss : List ByteArray) (t s : ByteArray) : oneOf (ss ++ [t]) s = (oneOf ss s || (t.toList == s.toList)) := by
  unfold oneOf; rw [List.any_append]; simp
theorem kid_mem (n : Nd) (j : Nat) (hj : j < kids n.op) : kidAt n j ∈ links n := by
  rw [links_kidAt]; exact List.mem_map.2 ⟨j, List.mem_range.2 hj, rfl⟩
end Tr
namespace Tr
theorem sco_room (f : Nat) (l : List Nd) (i : Nat) (out : List Int) (j : Nat) (hj : j < kids (l.getD i Nd.zero).op) : (scoK f l (l.getD i Nd.zero) out j).length + (ordF f l (kidAt (l.getD i Nd.zero) j).toNat).length ≤ out.length + (ordF (f + 1) l i).length := by
  rw [ordF, List.length_append]
  generalize l.getD i Nd.zero = n at *
  have h : j < (links n).length := by rw [links_length]; exact hj
  have e : (links n)[j] = kidAt n j := by
    have := links_getD n j hj
    rw [List.getD_eq_getElem?_getD, List.getElem?_eq_getElem h] at this
    exact this
  have e2 : links n = (links n).take j ++ ([kidAt n j] ++ (links n).drop (j + 1)) := by
    conv => lhs; rw [← List.take_append_drop j (links n), List.drop_eq_getElem_cons h, e]
    rfl
  have e3 : ((links n).flatMap (fun x => ordF f l x.toNat)).length = (((links n).take j).flatMap (fun x => ordF f l x.toNat)).length + ((ordF f l (kidAt n j).toNat).length + (((links n).drop (j + 1)).flatMap (fun x => ordF f l x.toNat)).length) := by
    conv => lhs; rw [e2]
    rw [List.flatMap_append, List.flatMap_append, List.length_append, List.length_append]
    simp
  unfold scoK
  rw [List.length_append]
  have := List.length_filter_le (unkI l) (((links n).take j).flatMap (fun x => ordF f l x.toNat))
  rw [e3]
  omega
theorem sco_room2 (f : Nat) (l : List Nd) (i : Nat) (out : List Int) : (scoK f l (l.getD i Nd.zero) out (kids (l.getD i Nd.zero).op)).length + 1 ≤ out.length + (ordF (f + 1) l i).length := by
  rw [ordF, List.length_append]
  unfold scoK
  rw [List.take_of_length_le (by rw [links_length]; exact Nat.le_refl _), List.length_append]
  have := List.length_filter_le (unkI l) ((links (l.getD i Nd.zero)).flatMap (fun x => ordF f l x.toNat))
  simp only [List.length_cons, List.length_nil]
  omega
/-- Who names each place, by the first k nodes and m of what the next one names. -/
def Holds (l : List Nd) (xs : List Value) (h : Nat → Int) : Prop := xs.length = l.length ∧ ∀ j, j < l.length → xs[j]? = some (.int .i64 (h j))
theorem Holds.put {l : List Nd} {xs : List Value} {h : Nat → Int} (H : Holds l xs h) (x : Nat) (v : Int) : Holds l (xs.set x (.int .i64 v)) (fun j => if j = x then v else h j) := by
  refine ⟨by rw [List.length_set]; exact H.1, fun j hj => ?_⟩
  show _ = some (Value.int .i64 (if j = x then v else h j))
  by_cases e : j = x
  · subst e; rw [List.getElem?_set_self (by rw [H.1]; exact hj), if_pos rfl]
  · rw [List.getElem?_set_ne (by omega), if_neg e]; exact H.2 j hj
theorem Holds.congr {l : List Nd} {xs : List Value} {h h' : Nat → Int} (H : Holds l xs h) (e : ∀ j, j < l.length → h j = h' j) : Holds l xs h' := ⟨H.1, fun j hj => by rw [H.2 j hj, e j hj]⟩
def holdM (l : List Nd) (k m : Nat) (j : Nat) : Int := if (j : Int) ∈ (links (l.getD k Nd.zero)).take m then k else if j = k then -1 else holdK l k j
theorem holdM_zero (l : List Nd) (k j : Nat) : holdM l k 0 j = if j = k then -1 else holdK l k j := by unfold holdM; simp
theorem holdM_succ (l : List Nd) (k m : Nat) (hm : m < kids (l.getD k Nd.zero).op) (x : Nat) (hx : kidAt (l.getD k Nd.zero) m = x) (j : Nat) : holdM l k (m + 1) j = if j = x then (k : Int) else holdM l k m j := by
  unfold holdM
  have h : m < (links (l.getD k Nd.zero)).length := by rw [links_length]; exact hm
  have e : (links (l.getD k Nd.zero))[m] = kidAt (l.getD k Nd.zero) m := by
    have := links_getD (l.getD k Nd.zero) m hm
    rw [List.getD_eq_getElem?_getD, List.getElem?_eq_getElem h] at this
    exact this
  rw [List.take_succ_eq_append_getElem h, e, hx]
  by_cases ej : j = x
  · subst ej; rw [if_pos (by simp), if_pos rfl]
  · rw [if_neg ej]
    have : ((j : Int) ∈ (links (l.getD k Nd.zero)).take m ++ [(x : Int)]) ↔ (j : Int) ∈ (links (l.getD k Nd.zero)).take m := by
      rw [List.mem_append]; simp; omega
    simp only [this]
theorem holdM_all (l : List Nd) (k j : Nat) : holdM l k (kids (l.getD k Nd.zero).op) j = holdK l (k + 1) j := by
  unfold holdM
  rw [List.take_of_length_le (by rw [links_length]; exact Nat.le_refl _), holdK]
end Tr

end Go.Proofs.Ytkjmnkbiflkpdaa
