/-
  Compiling, plainly: the code of a node, laid behind what was laid; how much is laid. No word of the program is used here.
-/
import Derived.Test.YtodpmonbfecfdaaCorM
import Derived.Test.YtodpmonbfecfdaaInM
namespace Go.Proofs.Ytodpmonbfecfdaa
open Go.RowKit
set_option linter.unusedVariables false
set_option linter.unusedSimpArgs false

namespace Cm
/-- What was laid so far, and how many registers are taken. -/
structure St where
  ins : List Ic
  regs : Int
def St.put (s : St) (op arg : Int) : St := ⟨s.ins ++ [⟨op, arg, []⟩], s.regs⟩
def St.val (s : St) (op : Int) (v : List M.Cl) : St := ⟨s.ins ++ [⟨op, 0, v⟩], s.regs⟩
/-- The instruction at k goes to the place that comes next. -/
def St.here (s : St) (k : Nat) : St := ⟨s.ins.set k ⟨(s.ins.getD k Ic.zero).op, (s.ins.length : Int), (s.ins.getD k Ic.zero).val⟩, s.regs⟩
def St.reg (s : St) : St := ⟨s.ins, s.regs + 1⟩
def St.len (s : St) : Nat := s.ins.length
def kindV (k : Int) : List M.Cl := [⟨k, 0, ByteArray.empty, ByteArray.empty, 0⟩]
abbrev Rec := Int → List Int → St → St
/-- Two nodes, of which the second is done where this instruction goes to its Arg. -/
def either (rec : Rec) (op a b : Int) (rs : List Int) (s : St) : St :=
  let s2 := rec a rs (s.put op 0)
  let s4 := (s2.put 10 0).here s.len
  (rec b rs s4).here s2.len
/-- Two nodes of one value. -/
def pair (rec : Rec) (a b : Int) (rs : List Int) (s : St) : St := rec b rs ((rec a rs (s.put 1 0)).put 4 0)
def list (rec : Rec) (a : Int) (rs : List Int) (s : St) : St :=
  let s1 := (s.reg.val 3 (kindV 5)).put 16 s.regs
  let s2 := rec a rs (s1.put 12 0)
  ((((s2.put 18 s.regs).put 15 0).here s1.len).put 2 0).put 17 s.regs
def asV (rec : Rec) (a b num : Int) (rs : List Int) (s : St) : St :=
  rec b (rs.set num.toNat s.regs) ((rec a rs (s.reg.put 1 0)).put 16 s.regs)
def reduce (rec : Rec) (a b c num : Int) (rs : List Int) (s : St) : St :=
  let s1 := (rec b rs (s.reg.reg.put 1 0)).put 16 s.regs
  let s2 := rec a rs (s1.put 12 0)
  let s3 := (((s2.put 16 (s.regs + 1)).put 17 s.regs).val 3 (kindV 0)).put 16 s.regs
  let s4 := rec c (rs.set num.toNat (s.regs + 1)) s3
  ((((s4.put 16 s.regs).put 15 0).here s1.len).put 2 0).put 17 s.regs
def alt (rec : Rec) (a b : Int) (rs : List Int) (s : St) : St :=
  let s1 := (s.reg.val 3 (kindV 1)).put 16 s.regs
  let s2 := (rec a rs (s1.put 14 0)).put 1 0
  let s3 := ((s2.put 11 0).val 3 (kindV 2)).put 16 s.regs
  let s4 := ((((s3.put 10 0).here s2.len).put 15 0).here s1.len).put 17 s.regs
  let s5 := ((s4.put 11 0).put 15 0).here s4.len
  (rec b rs s5).here s3.len
/-- The code of one node. -/
def one (rec : Rec) (c : Co) (rs : List Int) (s : St) : St :=
  if c.op = 2 then (s.put 2 0).val 3 c.val
  else if c.op = 17 then s.put 15 0
  else if c.op = 15 then (s.put 2 0).put 17 (rs.getD c.num.toNat 0)
  else if c.op = 16 then s.put 8 c.num
  else if c.op = 3 then rec c.b rs (rec c.a rs s)
  else if c.op = 4 then either rec 12 c.a c.b rs s
  else if c.op = 12 then either rec 11 c.b c.c rs (rec c.a rs (s.put 1 0))
  else if c.op = 6 then (pair rec c.b c.a rs s).put 5 c.num
  else if c.op = 7 then (pair rec c.a c.b rs s).put 6 0
  else if c.op = 11 then (pair rec c.a c.b rs s).val 9 c.val
  else if c.op = 8 then (rec c.a rs s).put 7 0
  else if c.op = 9 then (rec c.a rs (s.put 13 0)).here s.len
  else if c.op = 10 then list rec c.a rs s
  else if c.op = 13 then reduce rec c.a c.b c.c c.num rs s
  else if c.op = 5 then alt rec c.a c.b rs s
  else if c.op = 14 then asV rec c.a c.b c.num rs s
  else s
def code (l : List Co) : Nat → Rec
  | 0 => fun _ _ s => s
  | f + 1 => fun i rs s => one (code l f) (l.getD i.toNat Co.zero) rs s
/-- What CompileCore answers where the core has no fault. -/
def made (l : List Co) : St := (code l l.length ((l.length : Int) - 1) (List.replicate 60 0) ⟨[], 0⟩).put 19 0
def compileOut (l : List Co) : Int × List Ic × Int :=
  if Co.fault l ≠ 0 then (Co.fault l, [], 0)
  else if 6000 < (made l).len ∨ 1000 < (made l).regs then (2, [], 0)
  else (0, (made l).ins, (made l).regs)
theorem put_len (s : St) (op arg : Int) : (s.put op arg).len = s.len + 1 := by simp [St.put, St.len]
theorem val_len (s : St) (op : Int) (v : List M.Cl) : (s.val op v).len = s.len + 1 := by simp [St.val, St.len]
theorem here_len (s : St) (k : Nat) : (s.here k).len = s.len := by simp [St.here, St.len]
theorem reg_len (s : St) : s.reg.len = s.len := rfl
theorem put_regs (s : St) (op arg : Int) : (s.put op arg).regs = s.regs := rfl
theorem val_regs (s : St) (op : Int) (v : List M.Cl) : (s.val op v).regs = s.regs := rfl
theorem here_regs (s : St) (k : Nat) : (s.here k).regs = s.regs := rfl
theorem reg_regs (s : St) : s.reg.regs = s.regs + 1 := rfl
/-- No less than before, and no more than that and g. -/
def Up (g : Nat) (s t : St) : Prop := s.len ≤ t.len ∧ t.len ≤ s.len + 14 * g ∧ s.regs ≤ t.regs ∧ t.regs ≤ s.regs + 2 * (g : Int)
/-- How many nodes are laid below a node. -/
def sz (l : List Co) : Nat → Int → Nat
  | 0, _ => 0
  | f + 1, i =>
    let c := l.getD i.toNat Co.zero
    1 + (if 1 ≤ Co.kids c.op then sz l f c.a else 0) + (if 2 ≤ Co.kids c.op then sz l f c.b else 0) + (if 3 ≤ Co.kids c.op then sz l f c.c else 0)
/-- The same, counted on the way: n instructions, r registers, and what g nodes lay. -/
structure UpN (n r g : Nat) (s t : St) : Prop where
  lo : s.len ≤ t.len
  hi : t.len ≤ s.len + n + 14 * g
  rlo : s.regs ≤ t.regs
  rhi : t.regs ≤ s.regs + (r : Int) + 2 * (g : Int)
theorem UpN.refl (s : St) : UpN 0 0 0 s s := ⟨by omega, by omega, by omega, by omega⟩
theorem UpN.put {n r g : Nat} {s t : St} (h : UpN n r g s t) (op arg : Int) : UpN (n + 1) r g s (t.put op arg) := ⟨by rw [put_len]; have := h.lo; omega, by rw [put_len]; have := h.hi; omega, h.rlo, h.rhi⟩
theorem UpN.val {n r g : Nat} {s t : St} (h : UpN n r g s t) (op : Int) (v : List M.Cl) : UpN (n + 1) r g s (t.val op v) := ⟨by rw [val_len]; have := h.lo; omega, by rw [val_len]; have := h.hi; omega, h.rlo, h.rhi⟩
theorem UpN.here {n r g : Nat} {s t : St} (h : UpN n r g s t) (k : Nat) : UpN n r g s (t.here k) := ⟨by rw [here_len]; exact h.lo, by rw [here_len]; exact h.hi, h.rlo, h.rhi⟩
theorem UpN.reg {n r g : Nat} {s t : St} (h : UpN n r g s t) : UpN n (r + 1) g s t.reg := ⟨h.lo, h.hi, by rw [reg_regs]; have := h.rlo; omega, by rw [reg_regs]; have := h.rhi; omega⟩
theorem UpN.go {n r g k : Nat} {s t u : St} (h : UpN n r g s t) (h2 : Up k t u) : UpN n r (g + k) s u := by
  obtain ⟨a1, a2, a3, a4⟩ := h
  obtain ⟨b1, b2, b3, b4⟩ := h2
  exact ⟨by omega, by omega, by omega, by omega⟩
theorem UpN.up {n r g k : Nat} {s t : St} (h : UpN n r g s t) (h1 : n ≤ 14) (h2 : r ≤ 2) (h3 : k = 1 + g) : Up k s t := by
  obtain ⟨a1, a2, a3, a4⟩ := h
  exact ⟨by omega, by omega, by omega, by omega⟩
section
variable {rec : Rec} {z : Int → Nat} (h : ∀ i rs s, Up (z i) s (rec i rs s))
include h
theorem either_up {n r g : Nat} {s0 s : St} (h0 : UpN n r g s0 s) (op a b : Int) (rs : List Int) : UpN (n + 2) r (g + z a + z b) s0 (either rec op a b rs s) :=
  ((((((h0.put op 0).go (h a rs _)).put 10 0).here _).go (h b rs _)).here _)
theorem pair_up (a b : Int) (rs : List Int) (s : St) : UpN 2 0 (0 + z a + z b) s (pair rec a b rs s) :=
  ((((UpN.refl s).put 1 0).go (h a rs _)).put 4 0).go (h b rs _)
theorem list_up (a : Int) (rs : List Int) (s : St) : UpN 7 1 (0 + z a) s (list rec a rs s) :=
  (((((((((UpN.refl s).reg.val 3 _).put 16 _).put 12 0).go (h a rs _)).put 18 _).put 15 0).here _).put 2 0).put 17 _
theorem as_up (a b num : Int) (rs : List Int) (s : St) : UpN 2 1 (0 + z a + z b) s (asV rec a b num rs s) :=
  ((((UpN.refl s).reg.put 1 0).go (h a rs _)).put 16 _).go (h b _ _)
theorem reduce_up (a b c num : Int) (rs : List Int) (s : St) : UpN 11 2 (0 + z b + z a + z c) s (reduce rec a b c num rs s) :=
  ((((((((((((((((UpN.refl s).reg.reg.put 1 0).go (h b rs _)).put 16 _).put 12 0).go (h a rs _)).put 16 _).put 17 _).val 3 _).put 16 _).go (h c _ _)).put 16 _).put 15 0).here _).put 2 0).put 17 _)
theorem alt_up (a b : Int) (rs : List Int) (s : St) : UpN 12 1 (0 + z a + z b) s (alt rec a b rs s) :=
  (((((((((((((((((((UpN.refl s).reg.val 3 _).put 16 _).put 14 0).go (h a rs _)).put 1 0).put 11 0).val 3 _).put 16 _).put 10 0).here _).put 15 0).here _).put 17 _).put 11 0).put 15 0).here _).go (h b rs _)).here _)
theorem one_up (c : Co) (rs : List Int) (s : St) :
    Up (1 + (if 1 ≤ Co.kids c.op then z c.a else 0) + (if 2 ≤ Co.kids c.op then z c.b else 0) + (if 3 ≤ Co.kids c.op then z c.c else 0)) s (one rec c rs s) := by
  obtain ⟨op, a, b, c3, num, val⟩ := c
  dsimp only
  by_cases hb : 2 ≤ op ∧ op ≤ 17
  case neg =>
    have hk : Co.kids op = 0 := by unfold Co.kids; rw [if_neg (by omega), if_neg (by omega), if_neg (by omega)]
    have e : one rec ⟨op, a, b, c3, num, val⟩ rs s = s := by
      unfold one
      dsimp only
      rw [if_neg (by omega), if_neg (by omega), if_neg (by omega), if_neg (by omega), if_neg (by omega), if_neg (by omega), if_neg (by omega), if_neg (by omega), if_neg (by omega), if_neg (by omega), if_neg (by omega), if_neg (by omega), if_neg (by omega), if_neg (by omega), if_neg (by omega), if_neg (by omega)]
    rw [e, hk]
    exact (UpN.refl s).up (by omega) (by omega) (by simp)
  case pos =>
    have hh : op = 2 ∨ op = 3 ∨ op = 4 ∨ op = 5 ∨ op = 6 ∨ op = 7 ∨ op = 8 ∨ op = 9 ∨ op = 10 ∨ op = 11 ∨ op = 12 ∨ op = 13 ∨ op = 14 ∨ op = 15 ∨ op = 16 ∨ op = 17 := by omega
    clear hb
    rcases hh with rfl | rfl | rfl | rfl | rfl | rfl | rfl | rfl | rfl | rfl | rfl | rfl | rfl | rfl | rfl | rfl
    · exact (((UpN.refl s).put 2 0).val 3 val).up (by omega) (by omega) (by simp [Co.kids])
    · exact (((UpN.refl s).go (h a rs s)).go (h b rs _)).up (by omega) (by omega) (by simp [Co.kids]; omega)
    · exact (either_up h (UpN.refl s) 12 a b rs).up (by omega) (by omega) (by simp [Co.kids]; omega)
    · exact (alt_up h a b rs s).up (by omega) (by omega) (by simp [Co.kids]; omega)
    · exact ((pair_up h b a rs s).put 5 num).up (by omega) (by omega) (by simp [Co.kids]; omega)
    · exact ((pair_up h a b rs s).put 6 0).up (by omega) (by omega) (by simp [Co.kids]; omega)
    · exact (((UpN.refl s).go (h a rs s)).put 7 0).up (by omega) (by omega) (by simp [Co.kids])
    · exact ((((UpN.refl s).put 13 0).go (h a rs _)).here _).up (by omega) (by omega) (by simp [Co.kids])
    · exact (list_up h a rs s).up (by omega) (by omega) (by simp [Co.kids])
    · exact ((pair_up h a b rs s).val 9 val).up (by omega) (by omega) (by simp [Co.kids]; omega)
    · exact (either_up h (((UpN.refl s).put 1 0).go (h a rs _)) 11 b c3 rs).up (by omega) (by omega) (by simp [Co.kids]; omega)
    · exact (reduce_up h a b c3 num rs s).up (by omega) (by omega) (by simp [Co.kids]; omega)
    · exact (as_up h a b num rs s).up (by omega) (by omega) (by simp [Co.kids]; omega)
    · exact (((UpN.refl s).put 2 0).put 17 _).up (by omega) (by omega) (by simp [Co.kids])
    · exact ((UpN.refl s).put 8 num).up (by omega) (by omega) (by simp [Co.kids])
    · exact ((UpN.refl s).put 15 0).up (by omega) (by omega) (by simp [Co.kids])
end
theorem code_up (l : List Co) : ∀ (f : Nat) (i : Int) (rs : List Int) (s : St), Up (sz l f i) s (code l f i rs s)
  | 0, i, rs, s => ⟨Nat.le_refl _, by simp [code], by simp [code], by simp [code, sz]⟩
  | f + 1, i, rs, s => one_up (code_up l f) (l.getD i.toNat Co.zero) rs s
/-- As many nodes are laid as stand in the tree's order. -/
theorem sz_ord {l : List Co} (hf : Tr.Fine (Co.tree l)) : ∀ (f i : Nat), i < l.length → sz l f (i : Int) = (Tr.ordF f (Co.tree l) i).length
  | 0, _, _ => rfl
  | f + 1, i, hi => by
    have hF := hf i (by rw [Co.tree_length]; exact hi)
    rw [sz, Tr.ordF, List.length_append, Co.tree_links l hi]
    rw [Co.tree_links l hi] at hF
    rw [Int.toNat_natCast]
    generalize l.getD i Co.zero = c at *
    have key : ∀ x ∈ [c.a, c.b, c.c].take (Co.kids c.op), sz l f x = (Tr.ordF f (Co.tree l) x.toNat).length := fun x hx => by
      have := hF x hx
      have e := sz_ord hf f x.toNat (by omega)
      rw [Int.toNat_of_nonneg this.1] at e
      exact e
    have hk : Co.kids c.op = 0 ∨ Co.kids c.op = 1 ∨ Co.kids c.op = 2 ∨ Co.kids c.op = 3 := by
      have h3 : Co.kids c.op ≤ 3 := by rw [← Co.nd_kids]; exact Tr.kids_le _
      omega
    rcases hk with hk | hk | hk | hk <;> rw [hk] at key ⊢ <;> simp at key ⊢ <;> omega
theorem made_bd {l : List Co} (hf : Tr.Fine (Co.tree l)) (h0 : 0 < l.length) (ho : Tr.ord (Co.tree l) (l.length - 1) = Tr.up 0 l.length) : (made l).len ≤ 14 * l.length + 1 ∧ 0 ≤ (made l).regs ∧ (made l).regs ≤ 2 * (l.length : Int) := by
  have hu := code_up l l.length ((l.length : Int) - 1) (List.replicate 60 0) ⟨[], 0⟩
  have hz := sz_ord hf l.length (l.length - 1) (by omega)
  have e : ((l.length - 1 : Nat) : Int) = (l.length : Int) - 1 := by omega
  unfold Tr.ord at ho
  rw [show l.length - 1 + 1 = l.length by omega] at ho
  rw [e, ho, Tr.up_length] at hz
  rw [hz] at hu
  obtain ⟨_, h2, h3, h4⟩ := hu
  unfold made
  rw [put_len, put_regs]
  simp only [St.len, List.length_nil] at h2 h3 h4 ⊢
  exact ⟨by omega, by simpa using h3, by simpa using h4⟩
end Cm
end Go.Proofs.Ytodpmonbfecfdaa
