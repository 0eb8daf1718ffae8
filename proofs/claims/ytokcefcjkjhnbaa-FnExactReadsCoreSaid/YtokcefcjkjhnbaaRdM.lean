/-
  The keys that a core reads, plainly: as the names that a tree binds.
-/
import Derived.Test.YtokcefcjkjhnbaaVarC
import Derived.Test.YtokcefcjkjhnbaaCorM
import Derived.Test.YtokcefcjkjhnbaaKids
namespace Go.Proofs.Ytokcefcjkjhnbaa
open Go.RowKit
set_option linter.unusedVariables false
set_option linter.unusedSimpArgs false

namespace Co
/-- What a node names second. -/
def snd2 (l : List Co) (i : Nat) : Co := l.getD (l.getD i zero).b.toNat zero
/-- Is a node a string? -/
def isText (n : Co) : Bool := n.op == 2 && (n.val.getD 0 M.zero).kind == 4
def rdr (l : List Co) (i : Nat) : Bool := (l.getD i zero).op == 7 && isText (snd2 l i)
def rdT (l : List Co) (i : Nat) : ByteArray := ((snd2 l i).val.getD 0 M.zero).text
/-- A tree whose nodes bind what the core's read. -/
def rt (l : List Co) : List Nd := (List.range l.length).map fun i => ⟨if rdr l i = true then 20 else 1, 0, 0, 0, 0, rdT l i⟩
theorem rt_len (l : List Co) : (rt l).length = l.length := by simp [rt]
theorem rt_getD (l : List Co) (i : Nat) (hi : i < l.length) : (rt l).getD i Nd.zero = ⟨if rdr l i = true then 20 else 1, 0, 0, 0, 0, rdT l i⟩ := by
  unfold rt
  rw [List.getD_eq_getElem?_getD, List.getElem?_map, List.getElem?_range hi]
  rfl
theorem rt_binder (l : List Co) (i : Nat) (hi : i < l.length) : Tr.binder ((rt l).getD i Nd.zero) = rdr l i := by
  rw [rt_getD l i hi]
  unfold Tr.binder
  cases rdr l i <;> rfl
theorem rt_text (l : List Co) (i : Nat) (hi : i < l.length) : ((rt l).getD i Nd.zero).text = rdT l i := by rw [rt_getD l i hi]
def readsOut (l : List Co) : Int × List ByteArray := if fault l ≠ 0 then (fault l, []) else (0, Tr.varsK (rt l) l.length)
theorem rd_bnd (l : List Co) (k : Nat) (hk : k < l.length) : Tr.bnd (rt l) (k + 1) = if rdr l k = true then Tr.bnd (rt l) k ++ [rdT l k] else Tr.bnd (rt l) k := by
  rw [Tr.bnd, rt_binder l k hk, rt_text l k hk]
theorem rd_vars (l : List Co) (k : Nat) (hk : k < l.length) : Tr.varsK (rt l) (k + 1) = if rdr l k = true ∧ oneOf (Tr.varsK (rt l) k) (rdT l k) = false then Tr.insV (Tr.varsK (rt l) k) (rdT l k) else Tr.varsK (rt l) k := by
  rw [Tr.varsK, rt_binder l k hk, rt_text l k hk]
theorem rd_once (l : List Co) : (Tr.once (Tr.bnd (rt l) l.length)).map Tr.textOf = Tr.varsK (rt l) l.length := by
  have := Tr.once_vars (rt l)
  rw [rt_len] at this
  exact this
/-- What an index names second stands ahead of it. -/
theorem snd_lt {l : List Co} (h : nf l l.length = 0) {i : Nat} (hi : i < l.length) (ho : (l.getD i zero).op = 7) : ∃ j : Nat, (l.getD i zero).b = (j : Int) ∧ j < i := by
  have hF := fine_of h i (by rw [tree_length]; exact hi)
  rw [tree_links l hi, ho] at hF
  have := hF (l.getD i zero).b (by show _ ∈ List.take 2 _; simp)
  exact ⟨(l.getD i zero).b.toNat, by omega, by omega⟩
theorem text_len {l : List Co} (h : nf l l.length = 0) {i : Nat} (hi : i < l.length) (ho : (l.getD i zero).op = 2) : 0 < (l.getD i zero).val.length := by
  have hv := (node_parts (nf_all h i hi)).2.2.1
  have h2 : hasVal (l.getD i zero).op = true := by rw [ho]; rfl
  unfold valF at hv
  rw [if_pos h2] at hv
  split at hv
  · rename_i h3; exact absurd hv h3
  · rename_i h3
    exact (M.fault_zero (by simpa using h3)).1
end Co
end Go.Proofs.Ytokcefcjkjhnbaa
