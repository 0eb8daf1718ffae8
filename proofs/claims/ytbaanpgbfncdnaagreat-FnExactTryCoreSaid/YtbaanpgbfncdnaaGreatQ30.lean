/-
  Both SlotsOfs: one more than the greatest slot.
  Passes, plainly: a core as a tree, what a pass makes of a node whose parts went through it already, and the tree laid again. No word of the program is used here.
-/
import Derived.Test.YtbaanpgbfncdnaaGreatQ11
import Derived.Test.YtbaanpgbfncdnaaGreatQ19
import Derived.Test.YtbaanpgbfncdnaaGreatQ28
import Derived.Test.YtbaanpgbfncdnaaGreatQ29
namespace Go.Proofs.YtbaanpgbfncdnaaGreat
open Go.RowKit
set_option linter.unusedVariables false
set_option linter.unusedSimpArgs false

namespace Co
theorem fault_parts {l : List Co} (h : fault l = 0) : l.length ≤ 900 ∧ nf l l.length = 0 := by
  unfold fault at h
  split at h
  · cases h
  split at h
  · rename_i h2; exact absurd h h2
  · rename_i h1 h2; exact ⟨by omega, by simpa using h2⟩
end Co
end Go.Proofs.YtbaanpgbfncdnaaGreat

namespace Go.Proofs.YtbaanpgbfncdnaaGreat
open Go.RowKit
set_option linter.unusedVariables false
set_option linter.unusedSimpArgs false
theorem code_ok {c : M.Cl} (h : M.cellCode c = 0) : c.ok := by
  unfold M.cellCode at h
  split at h
  · cases h
  split at h
  · cases h
  split at h
  · cases h
  split at h
  · rename_i h1 h2 h3 h4
    have t1 : c.text.size ≤ 60 := by have := h4.1; unfold M.textOk at this; rw [Bool.and_eq_true, decide_eq_true_eq] at this; exact this.1
    have t2 : c.key.size ≤ 60 := by have := h4.2; unfold M.textOk at this; rw [Bool.and_eq_true, decide_eq_true_eq] at this; exact this.1
    unfold M.Cl.ok
    omega
  · cases h
theorem len_of_valid {v : List M.Cl} (h : M.valueFault v = 0) : 1 ≤ v.length ∧ v.length ≤ 200 := ⟨(M.fault_zero h).1, (M.fault_zero h).2.1⟩
theorem ok_of_valid {v : List M.Cl} (h : M.valueFault v = 0) : ∀ c ∈ v, c.ok := fun c hc => code_ok (M.first_zero (M.fault_zero h).2.2.1 c hc)
/-- What a node says by itself. -/
structure Hd where
  op : Int
  num : Int
  val : List M.Cl
/-- A node and its parts. -/
inductive Ste where
  | n0 (h : Hd)
  | n1 (h : Hd) (a : Ste)
  | n2 (h : Hd) (a b : Ste)
  | n3 (h : Hd) (a b c : Ste)
namespace Ste
def hd : Ste → Hd
  | n0 h => h
  | n1 h _ => h
  | n2 h _ _ => h
  | n3 h _ _ _ => h
def ks : Ste → List Ste
  | n0 _ => []
  | n1 _ a => [a]
  | n2 _ a b => [a, b]
  | n3 _ a b c => [a, b, c]
def mk (h : Hd) : List Ste → Ste
  | [] => n0 h
  | [a] => n1 h a
  | [a, b] => n2 h a b
  | a :: b :: c :: _ => n3 h a b c
def z : Ste := n0 ⟨0, 0, []⟩
theorem hd_mk (h : Hd) (L : List Ste) : (mk h L).hd = h := by
  rcases L with _ | ⟨a, _ | ⟨b, _ | ⟨c, r⟩⟩⟩ <;> rfl
theorem ks_mk (h : Hd) (L : List Ste) (hL : L.length ≤ 3) : (mk h L).ks = L := by
  rcases L with _ | ⟨a, _ | ⟨b, _ | ⟨c, _ | ⟨d, r⟩⟩⟩⟩ <;> first | rfl | (simp at hL)
theorem ks_le (s : Ste) : s.ks.length ≤ 3 := by cases s <;> simp [ks]
def sz : Ste → Nat
  | n0 _ => 1
  | n1 _ a => sz a + 1
  | n2 _ a b => sz a + sz b + 1
  | n3 _ a b c => sz a + sz b + sz c + 1
/-- The sizes of parts together. -/
def szL : List Ste → Nat
  | [] => 0
  | s :: r => sz s + szL r
theorem sz_pos (s : Ste) : 1 ≤ sz s := by cases s <;> simp [sz]
theorem sz_ks (s : Ste) : sz s = szL s.ks + 1 := by cases s <;> simp [sz, ks, szL] <;> omega
theorem sz_mk (h : Hd) (L : List Ste) (hL : L.length ≤ 3) : sz (mk h L) = szL L + 1 := by rw [sz_ks, ks_mk h L hL]
theorem szL_append (a b : List Ste) : szL (a ++ b) = szL a + szL b := by
  induction a with
  | nil => simp [szL]
  | cons s r ih => simp only [List.cons_append, szL, ih]; omega
theorem szL_mem {L : List Ste} {s : Ste} (h : s ∈ L) : sz s ≤ szL L := by
  induction L with
  | nil => cases h
  | cons t r ih =>
    simp only [szL]
    rcases List.mem_cons.1 h with rfl | h
    · omega
    · have := ih h; omega
theorem szL_take_succ (L : List Ste) (k : Nat) (hk : k < L.length) : szL (L.take (k + 1)) = szL (L.take k) + sz (L.getD k z) := by
  rw [List.take_add_one, szL_append, List.getElem?_eq_getElem hk, List.getD_eq_getElem?_getD, List.getElem?_eq_getElem hk]
  simp [szL]
theorem szL_take_le (L : List Ste) (k : Nat) : szL (L.take k) ≤ szL L := by
  have h := szL_append (L.take k) (L.drop k)
  rw [List.take_append_drop] at h
  omega
/-- Induction over parts. -/
theorem ind {P : Ste → Prop} (H : ∀ s, (∀ k ∈ s.ks, P k) → P s) (s : Ste) : P s := by
  induction s with
  | n0 h => exact H _ (fun k hk => by cases hk)
  | n1 h a ia => exact H _ (fun k hk => by simp only [ks, List.mem_singleton] at hk; subst hk; exact ia)
  | n2 h a b ia ib => exact H _ (fun k hk => by simp only [ks, List.mem_cons, List.not_mem_nil, or_false] at hk; rcases hk with rfl | rfl <;> assumption)
  | n3 h a b c ia ib ic => exact H _ (fun k hk => by simp only [ks, List.mem_cons, List.not_mem_nil, or_false] at hk; rcases hk with rfl | rfl | rfl <;> assumption)
/-! what a node may be -/
/-- A node that is right by itself: its op, its number, what it holds; and as many parts as its op has. -/
structure Fit (h : Hd) (n : Nat) : Prop where
  op : 1 ≤ h.op ∧ h.op ≤ 17
  kid : Co.kids h.op = n
  num : Co.low h.op ≤ h.num ∧ h.num ≤ Co.high h.op
  val : Co.hasVal h.op = true → M.valueFault h.val = 0
  str : h.op = 11 → (h.val.getD 0 M.zero).kind = 4
  non : Co.hasVal h.op = false → h.val = []
def Ok : Ste → Prop
  | n0 h => Fit h 0
  | n1 h a => Fit h 1 ∧ Ok a
  | n2 h a b => Fit h 2 ∧ Ok a ∧ Ok b
  | n3 h a b c => Fit h 3 ∧ Ok a ∧ Ok b ∧ Ok c
theorem ok_iff (s : Ste) : Ok s ↔ Fit s.hd s.ks.length ∧ ∀ k ∈ s.ks, Ok k := by
  cases s <;> simp [Ok, hd, ks]
theorem ok_mk {h : Hd} {L : List Ste} (hL : L.length ≤ 3) (hf : Fit h L.length) (hk : ∀ k ∈ L, Ok k) : Ok (mk h L) := by
  rw [ok_iff, hd_mk, ks_mk h L hL]
  exact ⟨hf, hk⟩
def const (v : List M.Cl) : Ste := n0 ⟨2, 0, v⟩
theorem ok_const {v : List M.Cl} (h : M.valueFault v = 0) : Ok (const v) :=
  ⟨by show (1 : Int) ≤ 2 ∧ (2 : Int) ≤ 17; omega, rfl, by show (0 : Int) ≤ 0 ∧ (0 : Int) ≤ 0; omega, fun _ => h, fun e => absurd (show (2 : Int) = 11 from e) (by decide), fun e => absurd (show Co.hasVal 2 = false from e) (by decide)⟩
/-- A node without parts is what its head says. -/
theorem leaf_eq {s : Ste} (h : Ok s) (hk : Co.kids s.hd.op = 0) : s = n0 s.hd := by
  have hf := ((ok_iff s).1 h).1.kid
  cases s with
  | n0 h => rfl
  | n1 h a => simp only [hd] at hk hf; rw [hk] at hf; simp [ks] at hf
  | n2 h a b => simp only [hd] at hk hf; rw [hk] at hf; simp [ks] at hf
  | n3 h a b c => simp only [hd] at hk hf; rw [hk] at hf; simp [ks] at hf
/-- A node that makes nothing. -/
theorem empty_eq {s : Ste} (h : Ok s) (ho : s.hd.op = 17) : s = n0 ⟨17, 0, []⟩ := by
  have hl := leaf_eq h (by rw [ho]; rfl)
  have hf := ((ok_iff s).1 h).1
  have h1 := hf.num
  have h2 := hf.non (by rw [ho]; rfl)
  rw [ho] at h1
  have h3 : s.hd.num = 0 := by have a1 : Co.low 17 = 0 := rfl; have a2 : Co.high 17 = 0 := rfl; omega
  rw [hl]
  have : s.hd = ⟨17, 0, []⟩ := by
    cases hh : s.hd with
    | mk o n v => rw [hh] at ho h2 h3; simp only at ho h2 h3; rw [ho, h2, h3]
  rw [this]
/-! passes -/
def g (L : List Ste) (i : Nat) : Ste := L.getD i z
def dead (h : Hd) (L : List Ste) : Option Ste :=
  if h.op = 3 ∨ h.op = 8 ∨ h.op = 9 ∨ h.op = 12 ∨ h.op = 14 ∨ h.op = 7 ∨ h.op = 11 then (if (g L 0).hd.op = 17 then some (g L 0) else none)
  else if h.op = 6 ∨ h.op = 13 then (if (g L 1).hd.op = 17 then some (g L 1) else none)
  else if h.op = 4 then (if (g L 0).hd.op = 17 then some (g L 1) else if (g L 1).hd.op = 17 then some (g L 0) else none)
  else if h.op = 5 then (if (g L 0).hd.op = 17 then some (g L 1) else if (g L 0).hd.op = 2 then some (if truthy (g L 0).hd.val = true then g L 0 else g L 1) else none)
  else none
def tried (h : Hd) (L : List Ste) : Option Ste :=
  if h.op = 9 then (if (g L 0).hd.op = 2 ∨ (g L 0).hd.op = 1 ∨ (g L 0).hd.op = 15 ∨ (g L 0).hd.op = 17 ∨ (g L 0).hd.op = 9 then some (g L 0) else none) else none
def one (p : Int) (h : Hd) (L : List Ste) : Option Ste := if p = 1 then none else if p = 2 then none else if p = 3 then dead h L else tried h L
def fin (p : Int) (h : Hd) (L : List Ste) (d : Nat) : Ste × Nat := match one p h L with
  | some s => (s, d + 1)
  | none => (mk h L, d)
def pass (p : Int) : Ste → Ste × Nat
  | n0 h => (n0 h, 0)
  | n1 h a => fin p h [(pass p a).1] (pass p a).2
  | n2 h a b => fin p h [(pass p a).1, (pass p b).1] ((pass p a).2 + (pass p b).2)
  | n3 h a b c => fin p h [(pass p a).1, (pass p b).1, (pass p c).1] ((pass p a).2 + (pass p b).2 + (pass p c).2)
/-- How often something was done in parts. -/
def didL (p : Int) : List Ste → Nat
  | [] => 0
  | s :: r => (pass p s).2 + didL p r
theorem didL_append (p : Int) (a b : List Ste) : didL p (a ++ b) = didL p a + didL p b := by
  induction a with
  | nil => simp [didL]
  | cons s r ih => simp only [List.cons_append, didL, ih]; omega
theorem didL_take_succ (p : Int) (L : List Ste) (k : Nat) (hk : k < L.length) : didL p (L.take (k + 1)) = didL p (L.take k) + (pass p (L.getD k z)).2 := by
  rw [List.take_add_one, didL_append, List.getElem?_eq_getElem hk, List.getD_eq_getElem?_getD, List.getElem?_eq_getElem hk]
  simp [didL]
/-- A pass, whichever node it is. -/
theorem pass_eq (p : Int) (s : Ste) (hs : s.ks = [] → one p s.hd [] = none) : pass p s = fin p s.hd (s.ks.map fun k => (pass p k).1) (didL p s.ks) := by
  cases s with
  | n0 h =>
    have h1 : one p h [] = none := hs rfl
    simp only [pass, hd, ks, List.map_nil, didL, fin]; rw [h1]; rfl
  | n1 h a => simp [pass, hd, ks, didL]
  | n2 h a b => simp [pass, hd, ks, didL]
  | n3 h a b c => simp [pass, hd, ks, didL, Nat.add_assoc]
theorem g_mem {L : List Ste} {i : Nat} (h : i < L.length) : g L i ∈ L := by
  unfold g
  rw [List.getD_eq_getElem?_getD, List.getElem?_eq_getElem h]
  exact List.getElem_mem h
/-- What comes in place of a node: one of its parts, or a constant. -/
theorem one_some {p : Int} {h : Hd} {L : List Ste} {s : Ste} (hf : Fit h L.length) (e : one p h L = some s) : (∃ i, i < L.length ∧ s = g L i) ∨ ∃ v, M.valueFault v = 0 ∧ s = const v := by
  have hk := hf.kid
  have kid2 : h.op = 3 ∨ h.op = 4 ∨ h.op = 5 ∨ h.op = 6 ∨ h.op = 7 ∨ h.op = 11 ∨ h.op = 14 → L.length = 2 := fun q => by rw [← hk]; rcases q with q | q | q | q | q | q | q <;> rw [q] <;> rfl
  have kid1 : h.op = 8 ∨ h.op = 9 ∨ h.op = 10 → L.length = 1 := fun q => by rw [← hk]; rcases q with q | q | q <;> rw [q] <;> rfl
  have kid3 : h.op = 12 ∨ h.op = 13 → L.length = 3 := fun q => by rw [← hk]; rcases q with q | q <;> rw [q] <;> rfl
  unfold one at e
  split at e
  · cases e
  split at e
  · cases e
  split at e
  · left
    unfold dead at e
    split at e
    · rename_i hq
      have : 1 ≤ L.length := by rcases hq with q | q | q | q | q | q | q <;> first | (have := kid2 (by omega); omega) | (have := kid1 (by omega); omega) | (have := kid3 (by omega); omega)
      split at e
      · exact ⟨0, by omega, (Option.some.inj e).symm⟩
      · cases e
    split at e
    · rename_i hq
      have : 2 ≤ L.length := by rcases hq with q | q <;> first | (have := kid2 (by omega); omega) | (have := kid3 (by omega); omega)
      split at e
      · exact ⟨1, by omega, (Option.some.inj e).symm⟩
      · cases e
    split at e
    · rename_i hq
      have := kid2 (by omega)
      split at e
      · exact ⟨1, by omega, (Option.some.inj e).symm⟩
      split at e
      · exact ⟨0, by omega, (Option.some.inj e).symm⟩
      · cases e
    split at e
    · rename_i hq
      have := kid2 (by omega)
      split at e
      · exact ⟨1, by omega, (Option.some.inj e).symm⟩
      split at e
      · split at e
        · exact ⟨0, by omega, (Option.some.inj e).symm⟩
        · exact ⟨1, by omega, (Option.some.inj e).symm⟩
      · cases e
    · cases e
  · left
    unfold tried at e
    split at e
    · rename_i hq
      have := kid1 (by omega)
      split at e
      · exact ⟨0, by omega, (Option.some.inj e).symm⟩
      · cases e
    · cases e
theorem one_leaf {p : Int} {h : Hd} (hf : Fit h 0) : one p h [] = none := by
  cases e : one p h [] with
  | none => rfl
  | some s =>
    have hk := hf.kid
    have ho := hf.op
    exfalso
    have no : ∀ o : Int, h.op = o → Co.kids o ≠ 0 → False := fun o q r => r (by rw [← q]; exact hk)
    unfold one dead tried at e
    have n3 : h.op ≠ 3 := fun q => no 3 q (by decide)
    have n4 : h.op ≠ 4 := fun q => no 4 q (by decide)
    have n5 : h.op ≠ 5 := fun q => no 5 q (by decide)
    have n6 : h.op ≠ 6 := fun q => no 6 q (by decide)
    have n7 : h.op ≠ 7 := fun q => no 7 q (by decide)
    have n8 : h.op ≠ 8 := fun q => no 8 q (by decide)
    have n9 : h.op ≠ 9 := fun q => no 9 q (by decide)
    have n10 : h.op ≠ 10 := fun q => no 10 q (by decide)
    have n11 : h.op ≠ 11 := fun q => no 11 q (by decide)
    have n12 : h.op ≠ 12 := fun q => no 12 q (by decide)
    have n13 : h.op ≠ 13 := fun q => no 13 q (by decide)
    have n14 : h.op ≠ 14 := fun q => no 14 q (by decide)
    simp [n3, n4, n5, n6, n7, n8, n9, n10, n11, n12, n13, n14] at e
/-- What a pass makes is right, no greater, and done no oftener than there are nodes. -/
theorem pass_ok (p : Int) (s : Ste) : Ok s → Ok (pass p s).1 ∧ sz (pass p s).1 ≤ sz s ∧ (pass p s).2 ≤ sz s := by
  induction s using ind with
  | H s ih =>
    intro hs
    obtain ⟨hf, hk⟩ := (ok_iff s).1 hs
    rw [pass_eq p s (fun q => by rw [q] at hf; exact one_leaf hf)]
    have hL : (s.ks.map fun k => (pass p k).1).length = s.ks.length := List.length_map _
    have hL3 : (s.ks.map fun k => (pass p k).1).length ≤ 3 := by rw [hL]; exact ks_le s
    have hok : ∀ k ∈ (s.ks.map fun k => (pass p k).1), Ok k := fun k hm => by
      obtain ⟨t, ht, rfl⟩ := List.mem_map.1 hm
      exact (ih t ht (hk t ht)).1
    have hsz : ∀ (l : List Ste), (∀ k ∈ l, k ∈ s.ks) → szL (l.map fun k => (pass p k).1) ≤ szL l ∧ didL p l ≤ szL l := by
      intro l
      induction l with
      | nil => intro _; simp [szL, didL]
      | cons t r ihr =>
        intro hm
        have h1 := ih t (hm t (List.mem_cons_self ..)) (hk t (hm t (List.mem_cons_self ..)))
        have h2 := ihr (fun k hkr => hm k (List.mem_cons_of_mem _ hkr))
        simp only [List.map_cons, szL, didL]
        omega
    have hs1 := hsz s.ks (fun k h => h)
    have hs2 := sz_ks s
    unfold fin
    cases e : one p s.hd (s.ks.map fun k => (pass p k).1) with
    | none =>
      refine ⟨ok_mk hL3 (by rw [hL]; exact hf) hok, ?_, ?_⟩
      · show sz (mk _ _) ≤ _
        rw [sz_mk _ _ hL3]; omega
      · show didL p s.ks ≤ _
        omega
    | some t =>
      rcases one_some (by rw [hL]; exact hf) e with ⟨i, hi, rfl⟩ | ⟨v, hv, rfl⟩
      · have hm := g_mem hi
        have := szL_mem hm
        refine ⟨hok _ hm, ?_, ?_⟩
        · show sz (g _ i) ≤ _
          omega
        · show didL p s.ks + 1 ≤ _
          omega
      · refine ⟨ok_const hv, ?_, ?_⟩
        · show sz (const v) ≤ _
          have : sz (const v) = 1 := rfl
          omega
        · show didL p s.ks + 1 ≤ _
          omega
/-! laid again -/
def nodeC (h : Hd) (a b c : Int) : Co := ⟨h.op, a, b, c, h.num, h.val⟩
/-- All of A, all of B, all of C and the node, behind b nodes. -/
def lay : Nat → Ste → List Co
  | b, n0 h => [nodeC h 0 0 0]
  | b, n1 h x => lay b x ++ [nodeC h ((b + sz x : Nat) - 1 : Int) 0 0]
  | b, n2 h x y => lay b x ++ lay (b + sz x) y ++ [nodeC h ((b + sz x : Nat) - 1 : Int) ((b + sz x + sz y : Nat) - 1 : Int) 0]
  | b, n3 h x y w => lay b x ++ lay (b + sz x) y ++ lay (b + sz x + sz y) w ++ [nodeC h ((b + sz x : Nat) - 1 : Int) ((b + sz x + sz y : Nat) - 1 : Int) ((b + sz x + sz y + sz w : Nat) - 1 : Int)]
def layL : Nat → List Ste → List Co
  | _, [] => []
  | b, s :: r => lay b s ++ layL (b + sz s) r
/-- Where the parts end. -/
def endAt (b : Nat) (L : List Ste) (i : Nat) : Int := if i < L.length then ((b + szL (L.take (i + 1)) : Nat) : Int) - 1 else 0
theorem lay_len (s : Ste) : ∀ b, (lay b s).length = sz s := by
  induction s with
  | n0 h => intro b; rfl
  | n1 h a ia => intro b; simp [lay, sz, ia]
  | n2 h a c ia ic => intro b; simp [lay, sz, ia, ic]; omega
  | n3 h a c d ia ic id => intro b; simp [lay, sz, ia, ic, id]; omega
theorem layL_len (L : List Ste) : ∀ b, (layL b L).length = szL L := by
  induction L with
  | nil => intro b; rfl
  | cons s r ih => intro b; simp [layL, szL, lay_len, ih]
theorem layL_append (a c : List Ste) : ∀ b, layL b (a ++ c) = layL b a ++ layL (b + szL a) c := by
  induction a with
  | nil => intro b; simp [layL, szL]
  | cons s r ih => intro b; simp [layL, szL, ih, Nat.add_assoc]
theorem lay_eq (b : Nat) (s : Ste) : lay b s = layL b s.ks ++ [nodeC s.hd (endAt b s.ks 0) (endAt b s.ks 1) (endAt b s.ks 2)] := by
  cases s <;> simp [lay, ks, hd, layL, endAt, szL, Nat.add_assoc]
theorem layL_take_succ (b : Nat) (L : List Ste) (k : Nat) (hk : k < L.length) : layL b (L.take (k + 1)) = layL b (L.take k) ++ lay (b + szL (L.take k)) (L.getD k z) := by
  rw [List.take_add_one, layL_append, List.getElem?_eq_getElem hk, List.getD_eq_getElem?_getD, List.getElem?_eq_getElem hk]
  simp [layL]
end Ste
end Go.Proofs.YtbaanpgbfncdnaaGreat
