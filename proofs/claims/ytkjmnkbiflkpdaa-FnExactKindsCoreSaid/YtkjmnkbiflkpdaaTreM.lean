/-
  Trees of a program, plainly: what a node names, the code of a node, whether the nodes stand in order, how deep they are. No word of the program is used here but the plain questions of a text.
-/
import Derived.Test.YtkjmnkbiflkpdaaNdM
import Derived.Test.YtkjmnkbiflkpdaaNamT
import Derived.Test.YtkjmnkbiflkpdaaWrdT
namespace Go.Proofs.Ytkjmnkbiflkpdaa
open Go.RowKit
set_option linter.unusedVariables false

namespace Tr
/-- How many nodes an op names. -/
def kids (op : Int) : Nat :=
  if op = 18 ∨ op = 19 then 3 else if (5 ≤ op ∧ op ≤ 11) ∨ op = 17 ∨ op = 20 then 2 else if (12 ≤ op ∧ op ≤ 14) ∨ op = 23 then 1 else 0
theorem kids_le (op : Int) : kids op ≤ 3 := by unfold kids; split <;> (try split) <;> (try split) <;> omega
/-- The places that a node names. -/
def links (n : Nd) : List Int := [n.a, n.b, n.c].take (kids n.op)
theorem links_length (n : Nd) : (links n).length = kids n.op := by
  have := kids_le n.op
  unfold links; rw [List.length_take]; simp; omega
/-- What each node names is ahead of it. -/
def Fine (l : List Nd) : Prop := ∀ i, i < l.length → ∀ x ∈ links (l.getD i Nd.zero), 0 ≤ x ∧ x < i
def up (a k : Nat) : List Int := (List.range' a k).map fun x : Nat => (x : Int)
theorem up_length (a k : Nat) : (up a k).length = k := by simp [up]
theorem up_zero (a : Nat) : up a 0 = [] := rfl
theorem up_add (a m k : Nat) : up a (m + k) = up a m ++ up (a + m) k := by
  unfold up
  rw [← List.map_append, ← List.range'_append_1]
theorem up_one (a : Nat) : up a 1 = [(a : Int)] := rfl
theorem up_succ (a k : Nat) : up a (k + 1) = up a k ++ [((a + k : Nat) : Int)] := by rw [up_add, up_one]
theorem up_get (a k i : Nat) (h : i < k) : (up a k)[i]? = some ((a + i : Nat) : Int) := by
  unfold up
  rw [List.getElem?_map, List.getElem?_range' h]; simp

def ordF : Nat → List Nd → Nat → List Int
  | 0, _, _ => []
  | f + 1, l, i => (links (l.getD i Nd.zero)).flatMap (fun x => ordF f l x.toNat) ++ [(i : Int)]
theorem flatMap_congr' {α β : Type} {l : List α} {f g : α → List β} (h : ∀ x ∈ l, f x = g x) : l.flatMap f = l.flatMap g := by
  induction l with
  | nil => rfl
  | cons a r ih => rw [List.flatMap_cons, List.flatMap_cons, h a (by simp), ih (fun x hx => h x (by simp [hx]))]
theorem ordF_eq {l : List Nd} (hf : Fine l) (f : Nat) : ∀ g i, i < l.length → i < f → i < g → ordF f l i = ordF g l i := by
  induction f with
  | zero => intro g i _ h; omega
  | succ f ih =>
    intro g i hi h1 h2
    obtain ⟨g, rfl⟩ : ∃ k, g = k + 1 := ⟨g - 1, by omega⟩
    rw [ordF, ordF]
    congr 1
    refine flatMap_congr' fun x hx => ?_
    have := hf i hi x hx
    exact ih g x.toNat (by omega) (by omega) (by omega)
def ord (l : List Nd) (i : Nat) : List Int := ordF (i + 1) l i
theorem ord_eq {l : List Nd} (hf : Fine l) (i : Nat) (hi : i < l.length) : ord l i = (links (l.getD i Nd.zero)).flatMap (fun x => ord l x.toNat) ++ [(i : Int)] := by
  unfold ord
  rw [ordF]
  congr 1
  refine flatMap_congr' fun x hx => ?_
  have := hf i hi x hx
  exact ordF_eq hf _ _ _ (by omega) (by omega) (by omega)

/-- The places that none has named so far, behind the first k nodes; none where they don't stand in order. -/
def stk (l : List Nd) : Nat → Option (List Int)
  | 0 => some []
  | k + 1 => match stk l k with
    | none => none
    | some st => if (links (l.getD k Nd.zero)).length ≤ st.length ∧ st.drop (st.length - (links (l.getD k Nd.zero)).length) = links (l.getD k Nd.zero) then some (st.take (st.length - (links (l.getD k Nd.zero)).length) ++ [(k : Int)]) else none
theorem stk_step {l : List Nd} {k : Nat} {st : List Int} (h : stk l k = some st) : stk l (k + 1) = if (links (l.getD k Nd.zero)).length ≤ st.length ∧ st.drop (st.length - (links (l.getD k Nd.zero)).length) = links (l.getD k Nd.zero) then some (st.take (st.length - (links (l.getD k Nd.zero)).length) ++ [(k : Int)]) else none := by
  rw [stk, h]
theorem stk_none {l : List Nd} {k : Nat} (h : stk l k = none) (m : Nat) : stk l (k + m) = none := by
  induction m with
  | zero => exact h
  | succ m ih => rw [← Nat.add_assoc, stk, ih]
theorem stk_none_le {l : List Nd} {k m : Nat} (h : stk l k = none) (hm : k ≤ m) : stk l m = none := by
  have := stk_none h (m - k)
  rwa [show k + (m - k) = m by omega] at this
theorem stk_len {l : List Nd} (k : Nat) : ∀ st, stk l k = some st → st.length ≤ k := by
  induction k with
  | zero => intro st h; simp [stk] at h; subst h; simp
  | succ k ih =>
    intro st h
    cases e : stk l k with
    | none => rw [stk, e] at h; simp at h
    | some s =>
      rw [stk_step e] at h
      split at h
      · simp only [Option.some.injEq] at h; subst h; have := ih s e; simp; omega
      · simp at h
theorem stk_fwd {l : List Nd} (hf : Fine l) (k : Nat) (hk : k ≤ l.length) : ∀ st, stk l k = some st → (∀ x ∈ st, 0 ≤ x ∧ x < k) ∧ st.flatMap (fun x => ord l x.toNat) = up 0 k ∧ (0 < k → ∃ r, st = r ++ [((k - 1 : Nat) : Int)]) := by
  induction k with
  | zero => intro st h; simp [stk] at h; subst h; simp [up_zero]
  | succ k ih =>
    intro st h
    cases e : stk l k with
    | none => rw [stk, e] at h; simp at h
    | some s =>
      obtain ⟨h1, h2, _⟩ := ih (by omega) s e
      rw [stk_step e] at h
      split at h
      · rename_i hc
        simp only [Option.some.injEq] at h
        subst h
        refine ⟨?_, ?_, fun _ => ⟨_, rfl⟩⟩
        · intro x hx
          rcases List.mem_append.1 hx with hx | hx
          · have := h1 x (List.mem_of_mem_take hx); omega
          · simp at hx; omega
        · rw [List.flatMap_append, up_succ, ← h2]
          simp only [List.flatMap_cons, List.flatMap_nil, List.append_nil, Int.toNat_natCast, Nat.zero_add]
          rw [ord_eq hf k (by omega)]
          conv => rhs; rw [← List.take_append_drop (s.length - (links (l.getD k Nd.zero)).length) s]
          rw [List.flatMap_append, hc.2, List.append_assoc]
      · simp at h
theorem up_pre {s k : Nat} {xs ys : List Int} (h : xs ++ ys = up s k) : xs = up s xs.length ∧ ys = up (s + xs.length) (k - xs.length) ∧ xs.length ≤ k := by
  have hl : xs.length + ys.length = k := by have := congrArg List.length h; simpa [up_length] using this
  have e : k = xs.length + (k - xs.length) := by omega
  rw [e, up_add] at h
  have := List.append_inj h (by rw [up_length])
  exact ⟨this.1, this.2, by omega⟩
theorem ord_last {l : List Nd} (i : Nat) : ∃ r, ord l i = r ++ [(i : Int)] := ⟨_, by unfold ord; rw [ordF]⟩
theorem stk_bwd {l : List Nd} (hf : Fine l) (i : Nat) : i < l.length → ∀ s st, s ≤ i → ord l i = up s (i + 1 - s) → stk l s = some st → stk l (i + 1) = some (st ++ [(i : Int)]) := by
  induction i using Nat.strongRecOn with
  | ind i ih =>
    intro hi s st hs ho h
    have key : ∀ (ls : List Int), (∀ x ∈ ls, 0 ≤ x ∧ x < i) → ∀ s st, s ≤ i → ls.flatMap (fun x => ord l x.toNat) = up s (i - s) → stk l s = some st → stk l i = some (st ++ ls) := by
      intro ls
      induction ls with
      | nil =>
        intro _ s st hs he h
        have := congrArg List.length he
        rw [up_length] at this
        simp at this
        have e : i = s := by omega
        subst e; simpa using h
      | cons x xs ihx =>
        intro hx s st hs he h
        rw [List.flatMap_cons] at he
        obtain ⟨e1, e2, e3⟩ := up_pre he
        obtain ⟨hx0, hx1⟩ := hx x (by simp)
        obtain ⟨r, hr⟩ := ord_last (l := l) x.toNat
        have hlen : (ord l x.toNat).length = r.length + 1 := by rw [hr]; simp
        have hlast : ((x.toNat : Nat) : Int) = ((s + r.length : Nat) : Int) := by
          have a1 := e1
          rw [hlen, up_succ, hr] at a1
          have := (List.append_inj a1 (by rw [up_length])).2
          simpa using this
        have hxn : x.toNat = s + r.length := by omega
        have hm : (ord l x.toNat).length = x.toNat + 1 - s := by omega
        rw [hm] at e1 e2
        have q := ih x.toNat (by omega) (by omega) s st (by omega) e1 h
        have := ihx (fun y hy => hx y (by simp [hy])) (x.toNat + 1) _ (by omega) (by rw [e2]; congr 1 <;> omega) q
        rw [this, show ((x.toNat : Nat) : Int) = x by omega]; simp
    rw [ord_eq hf i hi, show i + 1 - s = (i - s) + 1 by omega, up_succ] at ho
    have hfl := (List.append_inj' ho rfl).1
    have hst := key _ (hf i hi) s st hs hfl h
    rw [stk_step hst, if_pos]
    · simp
    · refine ⟨by simp, ?_⟩
      simp
/-- The nodes stand in the order in which they are named. -/
def inOrder (l : List Nd) : Bool := match stk l l.length with | some st => st.length == 1 | none => false
theorem inOrder_iff {l : List Nd} (hf : Fine l) (h0 : 0 < l.length) : inOrder l = true ↔ ord l (l.length - 1) = up 0 l.length := by
  unfold inOrder
  constructor
  · intro h
    cases e : stk l l.length with
    | none => rw [e] at h; simp at h
    | some st =>
      rw [e] at h
      obtain ⟨_, h2, h3⟩ := stk_fwd hf l.length (Nat.le_refl _) st e
      obtain ⟨r, rfl⟩ := h3 h0
      have : r = [] := by simp at h; exact h
      subst this
      simpa using h2
  · intro h
    have := stk_bwd hf (l.length - 1) (by omega) 0 [] (by omega) (by rw [h]; congr 1; omega) rfl
    rw [show l.length - 1 + 1 = l.length by omega] at this
    rw [this]; rfl

/-- The order as the model reads it: no more than there may be. -/
def cutF : Nat → List Nd → List Int → Nat → List Int
  | 0, _, out, _ => out
  | f + 1, l, out, i => (links (l.getD i Nd.zero)).foldl (fun o x => if o.length ≤ l.length then cutF f l o x.toNat else o) out ++ [(i : Int)]
theorem cutF_ge (f : Nat) (l : List Nd) : ∀ (out : List Int) (i : Nat), out.length ≤ (cutF f l out i).length := by
  induction f with
  | zero => intro out i; exact Nat.le_refl _
  | succ f ih =>
    intro out i
    rw [cutF, List.length_append]
    have : ∀ (ls out : List Int), out.length ≤ (ls.foldl (fun o x => if o.length ≤ l.length then cutF f l o x.toNat else o) out).length := by
      intro ls
      induction ls with
      | nil => intro o; exact Nat.le_refl _
      | cons x xs ih2 =>
        intro o
        rw [List.foldl_cons]
        refine Nat.le_trans ?_ (ih2 _)
        split
        · exact ih o _
        · exact Nat.le_refl _
    have := this (links (l.getD i Nd.zero)) out
    omega
theorem fold_ge (f : Nat) (l : List Nd) : ∀ (ls out : List Int), out.length ≤ (ls.foldl (fun o x => if o.length ≤ l.length then cutF f l o x.toNat else o) out).length := by
  intro ls
  induction ls with
  | nil => intro o; exact Nat.le_refl _
  | cons x xs ih2 =>
    intro o
    rw [List.foldl_cons]
    refine Nat.le_trans ?_ (ih2 _)
    split
    · exact cutF_ge f l o _
    · exact Nat.le_refl _
theorem cutF_small (f : Nat) (l : List Nd) : ∀ (out : List Int) (i : Nat), ((cutF f l out i).length ≤ l.length ∨ out.length + (ordF f l i).length ≤ l.length) → cutF f l out i = out ++ ordF f l i := by
  induction f with
  | zero => intro out i _; simp [cutF, ordF]
  | succ f ih =>
    have key : ∀ (ls out : List Int), ((ls.foldl (fun o x => if o.length ≤ l.length then cutF f l o x.toNat else o) out).length ≤ l.length ∨ out.length + (ls.flatMap (fun x => ordF f l x.toNat)).length ≤ l.length) → ls.foldl (fun o x => if o.length ≤ l.length then cutF f l o x.toNat else o) out = out ++ ls.flatMap (fun x => ordF f l x.toNat) := by
      intro ls
      induction ls with
      | nil => intro o _; simp
      | cons x xs ih2 =>
        intro o h
        rw [List.foldl_cons] at h ⊢
        rw [List.flatMap_cons] at h ⊢
        have hol : o.length ≤ l.length := by
          rcases h with h | h
          · have a := fold_ge f l xs (if o.length ≤ l.length then cutF f l o x.toNat else o)
            have b : o.length ≤ (if o.length ≤ l.length then cutF f l o x.toNat else o).length := by split; exact cutF_ge f l o _; exact Nat.le_refl _
            omega
          · simp at h; omega
        rw [if_pos hol] at h ⊢
        have e := ih o x.toNat (by
          rcases h with h | h
          · left; have a := fold_ge f l xs (cutF f l o x.toNat); omega
          · right; simp at h; omega)
        rw [e] at h ⊢
        rw [ih2 (o ++ ordF f l x.toNat) (by rcases h with h | h; exact .inl h; right; simp at h ⊢; omega)]
        simp
    intro out i h
    rw [cutF, ordF] at h ⊢
    rw [key _ _ (by
      rcases h with h | h
      · left; simp at h ⊢; omega
      · right; simp at h ⊢; omega)]
    simp
theorem cutF_le (f : Nat) (l : List Nd) : ∀ (out : List Int) (i m : Nat), out.length ≤ m → l.length ≤ m → (cutF f l out i).length ≤ m + f := by
  induction f with
  | zero => intro out i m h _; simpa [cutF] using h
  | succ f ih =>
    intro out i m h hm
    rw [cutF, List.length_append]
    have : ∀ (ls out : List Int), out.length ≤ m + f → (ls.foldl (fun o x => if o.length ≤ l.length then cutF f l o x.toNat else o) out).length ≤ m + f := by
      intro ls
      induction ls with
      | nil => intro o h; exact h
      | cons x xs ih2 =>
        intro o h
        rw [List.foldl_cons]
        refine ih2 _ ?_
        split
        · rename_i h3; exact ih o _ m (by omega) hm
        · exact h
    have := this (links (l.getD i Nd.zero)) out (by omega)
    simp only [List.length_cons, List.length_nil]; omega
/-- The model's order is the numbers in their order just where the nodes stand in order. -/
theorem cut_iff {l : List Nd} (hf : Fine l) (h0 : 0 < l.length) : cutF l.length l [] (l.length - 1) = up 0 l.length ↔ inOrder l = true := by
  rw [inOrder_iff hf h0]
  have e : ord l (l.length - 1) = ordF l.length l (l.length - 1) := by unfold ord; rw [show l.length - 1 + 1 = l.length by omega]
  rw [e]
  constructor
  · intro h
    have := cutF_small l.length l [] (l.length - 1) (.inl (by rw [h, up_length]; exact Nat.le_refl _))
    rw [← h, this]; simp
  · intro h
    rw [cutF_small l.length l [] (l.length - 1) (.inr (by rw [h, up_length]; simp)), h]; simp
end Tr
namespace Tr
def texts (op : Int) : Bool := op == 3 || op == 17 || op == 19 || op == 20 || op == 21 || op == 22 || op == 23
def low (op : Int) : Int := if op = 10 then 1 else 0
def high (op : Int) : Int := if op = 2 then 1000000000000000 else if op = 4 then 2 else if op = 10 then 11 else 0
def fits (op : Int) (s : ByteArray) : Bool :=
  if op = 3 ∨ op = 17 then M.textOk s else if op = 19 ∨ op = 20 ∨ op = 21 then J.isName s
  else if op = 22 ∨ op = 23 then J.isName s && !oneOf theWords s else true
/-- One of the places of a node: ahead of it, where it is named, else 0. -/
def one (named : Bool) (x : Int) (i : Nat) : Bool := if named then decide (0 ≤ x) && decide (x < i) else x == 0
def linksOk (ks : Nat) (a b c : Int) (i : Nat) : Bool := one (decide (0 < ks)) a i && (one (decide (1 < ks)) b i && one (decide (2 < ks)) c i)
def formOk (n : Nd) : Bool := (high n.op != 0 || n.num == 0) && (texts n.op || n.text.toList.isEmpty)
def nodeF (l : List Nd) (i : Nat) : Int :=
  if (l.getD i Nd.zero).op < 1 ∨ 24 < (l.getD i Nd.zero).op then 6
  else if (formOk (l.getD i Nd.zero) && linksOk (kids (l.getD i Nd.zero).op) (l.getD i Nd.zero).a (l.getD i Nd.zero).b (l.getD i Nd.zero).c i) = false then 1
  else if fits (l.getD i Nd.zero).op (l.getD i Nd.zero).text = false then 5
  else if (l.getD i Nd.zero).num < low (l.getD i Nd.zero).op ∨ high (l.getD i Nd.zero).op < (l.getD i Nd.zero).num then 3
  else if (l.getD i Nd.zero).op = 17 ∧ (l.getD (l.getD i Nd.zero).a.toNat Nd.zero).op ≠ 16 ∧ (l.getD (l.getD i Nd.zero).a.toNat Nd.zero).op ≠ 17 then 1 else 0
/-- The first code among the first k nodes. -/
def nf (l : List Nd) : Nat → Int
  | 0 => 0
  | k + 1 => if nf l k = 0 then nodeF l k else nf l k
theorem nf_stop {l : List Nd} {k : Nat} (h : nf l k ≠ 0) (m : Nat) (hm : k ≤ m) : nf l m = nf l k := by
  obtain ⟨d, rfl⟩ : ∃ d, m = k + d := ⟨m - k, by omega⟩
  induction d with
  | zero => rfl
  | succ d ih =>
    have e := ih (by omega)
    rw [← Nat.add_assoc, nf, e, if_neg h]
theorem nf_all {l : List Nd} {k : Nat} (h : nf l k = 0) : ∀ i, i < k → nodeF l i = 0 := by
  induction k with
  | zero => intro i hi; omega
  | succ k ih =>
    rw [nf] at h
    split at h
    · rename_i h0
      intro i hi
      by_cases e : i = k
      · subst e; exact h
      · exact ih h0 i (by omega)
    · rename_i h0; exact absurd h h0
theorem one_named {p : Bool} {x : Int} {i : Nat} (h : one p x i = true) (hp : p = true) : 0 ≤ x ∧ x < i := by
  unfold one at h; rw [hp] at h; simpa using h
theorem one_not {p : Bool} {x : Int} {i : Nat} (h : one p x i = true) (hp : p = false) : x = 0 := by
  unfold one at h; rw [hp] at h; simpa using h
theorem links_fine {n : Nd} {i : Nat} (h : linksOk (kids n.op) n.a n.b n.c i = true) : ∀ x ∈ links n, 0 ≤ x ∧ x < i := by
  have hk := kids_le n.op
  unfold linksOk at h
  simp only [Bool.and_eq_true] at h
  obtain ⟨h1, h2, h3⟩ := h
  intro x hx
  unfold links at hx
  match e : kids n.op, hk with
  | 0, _ => rw [e] at hx; simp at hx
  | 1, _ => rw [e] at hx h1; simp at hx; subst hx; exact one_named h1 rfl
  | 2, _ => rw [e] at hx h1 h2; simp at hx; rcases hx with rfl | rfl; exact one_named h1 rfl; exact one_named h2 rfl
  | 3, _ => rw [e] at hx h1 h2 h3; simp at hx; rcases hx with rfl | rfl | rfl; exact one_named h1 rfl; exact one_named h2 rfl; exact one_named h3 rfl
theorem node_parts {l : List Nd} {i : Nat} (h : nodeF l i = 0) : (1 ≤ (l.getD i Nd.zero).op ∧ (l.getD i Nd.zero).op ≤ 24) ∧ formOk (l.getD i Nd.zero) = true ∧ linksOk (kids (l.getD i Nd.zero).op) (l.getD i Nd.zero).a (l.getD i Nd.zero).b (l.getD i Nd.zero).c i = true ∧ fits (l.getD i Nd.zero).op (l.getD i Nd.zero).text = true ∧ (low (l.getD i Nd.zero).op ≤ (l.getD i Nd.zero).num ∧ (l.getD i Nd.zero).num ≤ high (l.getD i Nd.zero).op) ∧ ((l.getD i Nd.zero).op = 17 → (l.getD (l.getD i Nd.zero).a.toNat Nd.zero).op = 16 ∨ (l.getD (l.getD i Nd.zero).a.toNat Nd.zero).op = 17) := by
  unfold nodeF at h
  split at h; · exact absurd h (by decide)
  rename_i h1
  split at h; · exact absurd h (by decide)
  rename_i h2
  split at h; · exact absurd h (by decide)
  rename_i h3
  split at h; · exact absurd h (by decide)
  rename_i h4
  split at h; · exact absurd h (by decide)
  rename_i h5
  simp only [Bool.not_eq_false, Bool.and_eq_true] at h2 h3
  refine ⟨by omega, h2.1, h2.2, h3, by omega, fun e => ?_⟩
  by_cases c : (l.getD (l.getD i Nd.zero).a.toNat Nd.zero).op = 16
  · exact .inl c
  · right
    by_cases c2 : (l.getD (l.getD i Nd.zero).a.toNat Nd.zero).op = 17
    · exact c2
    · exact absurd ⟨e, c, c2⟩ h5
theorem fine_of {l : List Nd} (h : nf l l.length = 0) : Fine l := fun i hi => links_fine (node_parts (nf_all h i hi)).2.2.1

/-- How deep a node is. -/
def depF : Nat → List Nd → Nat → Nat
  | 0, _, _ => 0
  | f + 1, l, i => (links (l.getD i Nd.zero)).foldl (fun d x => max d (depF f l x.toNat)) 0 + 1
theorem foldl_congr' {α β : Type} {l : List α} {f g : β → α → β} (h : ∀ x ∈ l, ∀ b, f b x = g b x) (b : β) : l.foldl f b = l.foldl g b := by
  induction l generalizing b with
  | nil => rfl
  | cons a r ih => rw [List.foldl_cons, List.foldl_cons, h a (by simp), ih (fun x hx => h x (by simp [hx]))]
theorem depF_eq {l : List Nd} (hf : Fine l) (f : Nat) : ∀ g i, i < l.length → i < f → i < g → depF f l i = depF g l i := by
  induction f with
  | zero => intro g i _ h; omega
  | succ f ih =>
    intro g i hi h1 h2
    obtain ⟨g, rfl⟩ : ∃ k, g = k + 1 := ⟨g - 1, by omega⟩
    rw [depF, depF]
    congr 1
    refine foldl_congr' (fun x hx b => ?_) 0
    have := hf i hi x hx
    rw [ih g x.toNat (by omega) (by omega) (by omega)]
def dep (l : List Nd) (i : Nat) : Nat := depF (i + 1) l i
theorem dep_eq {l : List Nd} (hf : Fine l) (i : Nat) (hi : i < l.length) : dep l i = (links (l.getD i Nd.zero)).foldl (fun d x => max d (dep l x.toNat)) 0 + 1 := by
  unfold dep
  rw [depF]
  congr 1
  refine foldl_congr' (fun x hx b => ?_) 0
  have := hf i hi x hx
  rw [depF_eq hf i (x.toNat + 1) x.toNat (by omega) (by omega) (by omega)]
theorem foldl_max_ge (g : Int → Nat) (ls : List Int) : ∀ b, b ≤ ls.foldl (fun d x => max d (g x)) b := by
  induction ls with
  | nil => intro b; exact Nat.le_refl _
  | cons x r ih => intro b; rw [List.foldl_cons]; exact Nat.le_trans (Nat.le_max_left _ _) (ih _)
theorem foldl_max_mem (g : Int → Nat) (ls : List Int) : ∀ b, ∀ x ∈ ls, g x ≤ ls.foldl (fun d x => max d (g x)) b := by
  induction ls with
  | nil => intro b x hx; simp at hx
  | cons y r ih =>
    intro b x hx
    rw [List.foldl_cons]
    rcases List.mem_cons.1 hx with rfl | hx
    · exact Nat.le_trans (Nat.le_max_right _ _) (foldl_max_ge g r _)
    · exact ih _ x hx
theorem foldl_max_le (g : Int → Nat) (ls : List Int) (m : Nat) (h : ∀ x ∈ ls, g x ≤ m) : ∀ b, b ≤ m → ls.foldl (fun d x => max d (g x)) b ≤ m := by
  induction ls with
  | nil => intro b hb; exact hb
  | cons y r ih =>
    intro b hb
    rw [List.foldl_cons]
    exact ih (fun x hx => h x (by simp [hx])) _ (Nat.max_le.2 ⟨hb, h y (by simp)⟩)
theorem dep_le {l : List Nd} (hf : Fine l) (i : Nat) : i < l.length → dep l i ≤ i + 1 := by
  induction i using Nat.strongRecOn with
  | ind i ih =>
    intro hi
    rw [dep_eq hf i hi]
    have := foldl_max_le (fun x => dep l x.toNat) (links (l.getD i Nd.zero)) i (fun x hx => by
      have := hf i hi x hx
      have := ih x.toNat (by omega) (by omega)
      omega) 0 (by omega)
    omega
theorem dep_ord {l : List Nd} (hf : Fine l) (i : Nat) : i < l.length → ∀ x ∈ ord l i, dep l x.toNat ≤ dep l i := by
  induction i using Nat.strongRecOn with
  | ind i ih =>
    intro hi x hx
    rw [ord_eq hf i hi] at hx
    rcases List.mem_append.1 hx with hx | hx
    · obtain ⟨y, hy, hxy⟩ := List.mem_flatMap.1 hx
      have hb := hf i hi y hy
      have h1 := ih y.toNat (by omega) (by omega) x hxy
      have h2 := foldl_max_mem (fun x => dep l x.toNat) (links (l.getD i Nd.zero)) 0 y hy
      rw [dep_eq hf i hi]
      have h3 : dep l y.toNat ≤ (links (l.getD i Nd.zero)).foldl (fun d x => max d (dep l x.toNat)) 0 := h2
      omega
    · simp at hx; subst hx; simp
/-- The deepest of the first k. -/
def most (l : List Nd) : Nat → Nat
  | 0 => 0
  | k + 1 => max (most l k) (dep l k)
theorem most_le {l : List Nd} {m : Nat} (k : Nat) (h : ∀ i, i < k → dep l i ≤ m) : most l k ≤ m := by
  induction k with
  | zero => exact Nat.zero_le _
  | succ k ih => rw [most]; exact Nat.max_le.2 ⟨ih fun i hi => h i (by omega), h k (by omega)⟩
theorem most_eq {l : List Nd} (hf : Fine l) (h0 : 0 < l.length) (ho : inOrder l = true) : most l l.length = dep l (l.length - 1) := by
  have he := (inOrder_iff hf h0).1 ho
  refine Nat.le_antisymm (most_le _ fun i hi => ?_) ?_
  · have hm : (i : Int) ∈ ord l (l.length - 1) := by
      rw [he]; exact List.mem_of_getElem? (i := i) (by rw [up_get 0 _ i hi]; simp)
    simpa using dep_ord hf (l.length - 1) (by omega) _ hm
  · obtain ⟨k, hk⟩ : ∃ k, l.length = k + 1 := ⟨l.length - 1, by omega⟩
    rw [hk, most]; exact Nat.le_max_right _ _
/-- What TreeFault tells. -/
def fault (l : List Nd) : Int :=
  if l.length < 1 ∨ 200 < l.length then 2
  else if nf l l.length ≠ 0 then nf l l.length
  else if inOrder l = false then 1
  else if 30 < dep l (l.length - 1) then 7 else 0
theorem fault_many {l : List Nd} (h : l.length < 1 ∨ 200 < l.length) : fault l = 2 := by unfold fault; rw [if_pos h]
theorem fault_node {l : List Nd} (h : ¬ (l.length < 1 ∨ 200 < l.length)) {k : Nat} (hk : k < l.length) (h0 : nf l k = 0) (h1 : nodeF l k ≠ 0) : fault l = nodeF l k := by
  have e : nf l (k + 1) = nodeF l k := by rw [nf, if_pos h0]
  have e2 : nf l l.length = nodeF l k := by rw [nf_stop (k := k + 1) (by rw [e]; exact h1) l.length (by omega), e]
  unfold fault; rw [if_neg h, e2, if_pos h1]
theorem fault_order {l : List Nd} (h : ¬ (l.length < 1 ∨ 200 < l.length)) (h0 : nf l l.length = 0) (h1 : inOrder l = false) : fault l = 1 := by
  unfold fault; rw [if_neg h, if_neg (by simpa using h0), if_pos h1]
theorem fault_deep {l : List Nd} (h : ¬ (l.length < 1 ∨ 200 < l.length)) (h0 : nf l l.length = 0) (h1 : inOrder l = true) (h2 : 30 < dep l (l.length - 1)) : fault l = 7 := by
  unfold fault; rw [if_neg h, if_neg (by simpa using h0), if_neg (by simp [h1]), if_pos h2]
theorem fault_ok {l : List Nd} (h : ¬ (l.length < 1 ∨ 200 < l.length)) (h0 : nf l l.length = 0) (h1 : inOrder l = true) (h2 : ¬ 30 < dep l (l.length - 1)) : fault l = 0 := by
  unfold fault; rw [if_neg h, if_neg (by simpa using h0), if_neg (by simp [h1]), if_neg h2]
end Tr

end Go.Proofs.Ytkjmnkbiflkpdaa
