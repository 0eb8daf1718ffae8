/-
  Lowering, plainly: the forms of a node, what is laid for a form behind what was laid, and for a tree; how much is laid; the slot of a name. No word of the program is used here.
-/
import Derived.Test.YtmbefapdckhjdaaCorM
import Derived.Test.YtmbefapdckhjdaaScoM
namespace Go.Proofs.Ytmbefapdckhjdaa
open Go.RowKit
set_option linter.unusedVariables false
set_option linter.unusedSimpArgs false

/-- A form, or a list of forms (nil, cons). -/
inductive Fm where
  | nil | cons (h t : Fm)
  | tree (i : Int) | var (t : ByteArray)
  | node (op num : Int) (val : List M.Cl) (ps : Fm)
  | bind (op : Int) (t : ByteArray) (ahead last : Fm)

namespace Lw
/-- A node with the places of its parts. -/
def mk (op num : Int) (val : List M.Cl) (ps : List Int) : Co := ⟨op, ps.getD 0 0, ps.getD 1 0, ps.getD 2 0, num, val⟩
/-- The slot of a name: the last of its name; 0 where there is none. -/
def slotK (ns : List ByteArray) (t : ByteArray) : Nat → Nat
  | 0 => 0
  | k + 1 => if (ns.getD k ByteArray.empty).toList == t.toList then k else slotK ns t k
def slot (ns : List ByteArray) (t : ByteArray) : Nat := slotK ns t ns.length
abbrev Rec := Int → List ByteArray → List Co → List Co × Int
def lay (rec : Rec) : Fm → List ByteArray → List Co → List Co × List Int
  | .nil, _, s => (s, [])
  | .cons h t, ns, s => ((lay rec t ns (lay rec h ns s).1).1, (lay rec h ns s).2 ++ (lay rec t ns (lay rec h ns s).1).2)
  | .tree i, ns, s => ((rec i ns s).1, [(rec i ns s).2])
  | .var t, ns, s => (s ++ [mk 15 (slot ns t) [] []], [(s.length : Int)])
  | .node op num val ps, ns, s => ((lay rec ps ns s).1 ++ [mk op num val (lay rec ps ns s).2], [((lay rec ps ns s).1.length : Int)])
  | .bind op t ahead last, ns, s =>
    ((lay rec last (ns ++ [t]) (lay rec ahead ns s).1).1 ++ [mk op ns.length [] ((lay rec ahead ns s).2 ++ (lay rec last (ns ++ [t]) (lay rec ahead ns s).1).2)], [((lay rec last (ns ++ [t]) (lay rec ahead ns s).1).1.length : Int)])
def l1 (a : Fm) : Fm := .cons a .nil
def l2 (a b : Fm) : Fm := .cons a (.cons b .nil)
def l3 (a b c : Fm) : Fm := .cons a (.cons b (.cons c .nil))
def kind (k : Int) : M.Cl := ⟨k, 0, ByteArray.empty, ByteArray.empty, 0⟩
def con (c : M.Cl) : Fm := .node 2 0 [c] .nil
def over (op : Int) (ps : Fm) : Fm := .node op 0 [] ps
def truth (f : Fm) : Fm := over 12 (l3 f (con (kind 2)) (con (kind 1)))
def done (d : Int) : Fm := .node 16 d [] .nil
def call (t : ByteArray) : Fm :=
  if t = ⟨#[110, 111, 116]⟩ then over 12 (l3 (over 1 .nil) (con (kind 1)) (con (kind 2)))
  else if t = ⟨#[101, 109, 112, 116, 121]⟩ then over 17 .nil
  else if t = ⟨#[108, 101, 110, 103, 116, 104]⟩ then done 1
  else if t = ⟨#[107, 101, 121, 115]⟩ then done 2
  else if t = ⟨#[116, 121, 112, 101]⟩ then done 3
  else if t = ⟨#[115, 111, 114, 116]⟩ then done 4
  else if t = ⟨#[97, 100, 100]⟩ then done 5
  else done 8
def callOne (t : ByteArray) (a : Fm) : Fm :=
  if t = ⟨#[109, 97, 112]⟩ then over 10 (l1 (over 3 (l2 (over 8 (l1 (over 1 .nil))) a)))
  else if t = ⟨#[115, 101, 108, 101, 99, 116]⟩ then over 12 (l3 a (over 1 .nil) (over 17 .nil))
  else over 3 (l2 a (over 8 (l1 (done 6))))
/-- The form of a node. -/
def form (n : Nd) : Fm :=
  if n.op = 1 then over 1 .nil
  else if n.op = 5 then over 3 (l2 (.tree n.a) (.tree n.b))
  else if n.op = 6 then over 4 (l2 (.tree n.a) (.tree n.b))
  else if n.op = 7 then over 5 (l2 (.tree n.a) (.tree n.b))
  else if n.op = 8 then over 12 (l3 (.tree n.a) (con (kind 2)) (truth (.tree n.b)))
  else if n.op = 9 then over 12 (l3 (.tree n.a) (truth (.tree n.b)) (con (kind 1)))
  else if n.op = 10 then .node 6 n.num [] (l2 (.tree n.a) (.tree n.b))
  else if n.op = 11 then over 7 (l2 (.tree n.a) (.tree n.b))
  else if n.op = 12 then over 8 (l1 (.tree n.a))
  else if n.op = 13 then over 9 (l1 (.tree n.a))
  else if n.op = 14 then over 10 (l1 (.tree n.a))
  else if n.op = 17 then .node 11 0 [⟨4, 0, n.text, ByteArray.empty, 0⟩] (l2 (.tree n.a) (.tree n.b))
  else if n.op = 18 then over 12 (l3 (.tree n.a) (.tree n.b) (.tree n.c))
  else if n.op = 19 then .bind 13 n.text (l2 (.tree n.a) (.tree n.b)) (l1 (.tree n.c))
  else if n.op = 20 then .bind 14 n.text (l1 (.tree n.a)) (l1 (.tree n.b))
  else if n.op = 21 then .var n.text
  else if n.op = 22 then call n.text
  else if n.op = 23 then callOne n.text (.tree n.a)
  else if n.op = 24 then over 8 (l1 (done 7))
  else if n.op = 2 then con ⟨3, n.num, ByteArray.empty, ByteArray.empty, 0⟩
  else if n.op = 3 then con ⟨4, 0, n.text, ByteArray.empty, 0⟩
  else if n.op = 15 then con (kind 5)
  else if n.op = 16 then con (kind 6)
  else con (kind n.num)
theorem form_1 {n : Nd} (h : n.op = 1) : form n = over 1 .nil := by unfold form; rw [h]; rfl
theorem form_5 {n : Nd} (h : n.op = 5) : form n = over 3 (l2 (.tree n.a) (.tree n.b)) := by unfold form; rw [h]; rfl
theorem form_6 {n : Nd} (h : n.op = 6) : form n = over 4 (l2 (.tree n.a) (.tree n.b)) := by unfold form; rw [h]; rfl
theorem form_7 {n : Nd} (h : n.op = 7) : form n = over 5 (l2 (.tree n.a) (.tree n.b)) := by unfold form; rw [h]; rfl
theorem form_8 {n : Nd} (h : n.op = 8) : form n = over 12 (l3 (.tree n.a) (con (kind 2)) (truth (.tree n.b))) := by unfold form; rw [h]; rfl
theorem form_9 {n : Nd} (h : n.op = 9) : form n = over 12 (l3 (.tree n.a) (truth (.tree n.b)) (con (kind 1))) := by unfold form; rw [h]; rfl
theorem form_10 {n : Nd} (h : n.op = 10) : form n = .node 6 n.num [] (l2 (.tree n.a) (.tree n.b)) := by unfold form; rw [h]; rfl
theorem form_11 {n : Nd} (h : n.op = 11) : form n = over 7 (l2 (.tree n.a) (.tree n.b)) := by unfold form; rw [h]; rfl
theorem form_12 {n : Nd} (h : n.op = 12) : form n = over 8 (l1 (.tree n.a)) := by unfold form; rw [h]; rfl
theorem form_13 {n : Nd} (h : n.op = 13) : form n = over 9 (l1 (.tree n.a)) := by unfold form; rw [h]; rfl
theorem form_14 {n : Nd} (h : n.op = 14) : form n = over 10 (l1 (.tree n.a)) := by unfold form; rw [h]; rfl
theorem form_17 {n : Nd} (h : n.op = 17) : form n = .node 11 0 [⟨4, 0, n.text, ByteArray.empty, 0⟩] (l2 (.tree n.a) (.tree n.b)) := by unfold form; rw [h]; rfl
theorem form_18 {n : Nd} (h : n.op = 18) : form n = over 12 (l3 (.tree n.a) (.tree n.b) (.tree n.c)) := by unfold form; rw [h]; rfl
theorem form_19 {n : Nd} (h : n.op = 19) : form n = .bind 13 n.text (l2 (.tree n.a) (.tree n.b)) (l1 (.tree n.c)) := by unfold form; rw [h]; rfl
theorem form_20 {n : Nd} (h : n.op = 20) : form n = .bind 14 n.text (l1 (.tree n.a)) (l1 (.tree n.b)) := by unfold form; rw [h]; rfl
theorem form_21 {n : Nd} (h : n.op = 21) : form n = .var n.text := by unfold form; rw [h]; rfl
theorem form_22 {n : Nd} (h : n.op = 22) : form n = call n.text := by unfold form; rw [h]; rfl
theorem form_23 {n : Nd} (h : n.op = 23) : form n = callOne n.text (.tree n.a) := by unfold form; rw [h]; rfl
theorem form_24 {n : Nd} (h : n.op = 24) : form n = over 8 (l1 (done 7)) := by unfold form; rw [h]; rfl
theorem form_2 {n : Nd} (h : n.op = 2) : form n = con ⟨3, n.num, ByteArray.empty, ByteArray.empty, 0⟩ := by unfold form; rw [h]; rfl
theorem form_3 {n : Nd} (h : n.op = 3) : form n = con ⟨4, 0, n.text, ByteArray.empty, 0⟩ := by unfold form; rw [h]; rfl
theorem form_15 {n : Nd} (h : n.op = 15) : form n = con (kind 5) := by unfold form; rw [h]; rfl
theorem form_16 {n : Nd} (h : n.op = 16) : form n = con (kind 6) := by unfold form; rw [h]; rfl
theorem form_no {n : Nd} (h1 : n.op ≠ 1) (h5 : n.op ≠ 5) (h6 : n.op ≠ 6) (h7 : n.op ≠ 7) (h8 : n.op ≠ 8) (h9 : n.op ≠ 9) (h10 : n.op ≠ 10) (h11 : n.op ≠ 11) (h12 : n.op ≠ 12) (h13 : n.op ≠ 13) (h14 : n.op ≠ 14) (h17 : n.op ≠ 17) (h18 : n.op ≠ 18) (h19 : n.op ≠ 19) (h20 : n.op ≠ 20) (h21 : n.op ≠ 21) (h22 : n.op ≠ 22) (h23 : n.op ≠ 23) (h24 : n.op ≠ 24) (h2 : n.op ≠ 2) (h3 : n.op ≠ 3) (h15 : n.op ≠ 15) (h16 : n.op ≠ 16) : form n = con (kind n.num) := by unfold form; rw [if_neg h1, if_neg h5, if_neg h6, if_neg h7, if_neg h8, if_neg h9, if_neg h10, if_neg h11, if_neg h12, if_neg h13, if_neg h14, if_neg h17, if_neg h18, if_neg h19, if_neg h20, if_neg h21, if_neg h22, if_neg h23, if_neg h24, if_neg h2, if_neg h3, if_neg h15, if_neg h16]
theorem form_4 {n : Nd} (h : n.op = 4) : form n = con (kind n.num) := form_no (by rw [h]; decide) (by rw [h]; decide) (by rw [h]; decide) (by rw [h]; decide) (by rw [h]; decide) (by rw [h]; decide) (by rw [h]; decide) (by rw [h]; decide) (by rw [h]; decide) (by rw [h]; decide) (by rw [h]; decide) (by rw [h]; decide) (by rw [h]; decide) (by rw [h]; decide) (by rw [h]; decide) (by rw [h]; decide) (by rw [h]; decide) (by rw [h]; decide) (by rw [h]; decide) (by rw [h]; decide) (by rw [h]; decide) (by rw [h]; decide) (by rw [h]; decide)
/-- What is laid for the tree from a node on. -/
def low (l : List Nd) : Nat → Rec
  | 0 => fun _ _ s => (s, 0)
  | f + 1 => fun i ns s => ((lay (low l f) (form (l.getD i.toNat Nd.zero)) ns s).1, (lay (low l f) (form (l.getD i.toNat Nd.zero)) ns s).2.headD 0)
theorem low_succ (l : List Nd) (f : Nat) (i : Int) (ns : List ByteArray) (s : List Co) : low l (f + 1) i ns s = ((lay (low l f) (form (l.getD i.toNat Nd.zero)) ns s).1, (lay (low l f) (form (l.getD i.toNat Nd.zero)) ns s).2.headD 0) := rfl
def core (l : List Nd) : List Co := (low l l.length ((l.length : Int) - 1) [] []).1
/-- What LowerTree answers: code, value, core. -/
def out (l : List Nd) : Int × Int × List Co :=
  if (Tr.scopeOut l).1 ≠ 0 then ((Tr.scopeOut l).1, (Tr.scopeOut l).2, []) else if 900 < (core l).length then (2, 0, []) else (0, 0, core l)

/-- At most so much is laid for a form, where c bounds what is laid for a tree. -/
def cst (c : Int → Nat) : Fm → Nat
  | .nil => 0
  | .cons h t => cst c h + cst c t
  | .tree i => c i
  | .var _ => 1
  | .node _ _ _ ps => cst c ps + 1
  | .bind _ _ a b => cst c a + cst c b + 1
theorem lay_len (rec : Rec) (c : Int → Nat) (h : ∀ i ns s, (rec i ns s).1.length ≤ s.length + c i) (F : Fm) : ∀ ns s, (lay rec F ns s).1.length ≤ s.length + cst c F := by
  induction F with
  | nil => intro ns s; exact Nat.le_refl _
  | cons a b iha ihb =>
    intro ns s
    have h1 := iha ns s
    have h2 := ihb ns (lay rec a ns s).1
    show (lay rec b ns (lay rec a ns s).1).1.length ≤ s.length + (cst c a + cst c b)
    omega
  | tree i => intro ns s; exact h i ns s
  | var t => intro ns s; simp [lay, cst]
  | node op num val ps ih =>
    intro ns s
    have h1 := ih ns s
    show ((lay rec ps ns s).1 ++ [_]).length ≤ s.length + (cst c ps + 1)
    rw [List.length_append, List.length_singleton]; omega
  | bind op t a b iha ihb =>
    intro ns s
    have h1 := iha ns s
    have h2 := ihb (ns ++ [t]) (lay rec a ns s).1
    show ((lay rec b (ns ++ [t]) (lay rec a ns s).1).1 ++ [_]).length ≤ s.length + (cst c a + cst c b + 1)
    rw [List.length_append, List.length_singleton]; omega
theorem cst_call (c : Int → Nat) (t : ByteArray) : cst c (call t) ≤ 5 := by
  have hd : ∀ d, cst c (done d) ≤ 5 := fun d => by show 0 + 1 ≤ 5; omega
  unfold call
  split; · show (((0 + 1) + ((0 + 1) + ((0 + 1) + 0))) + 1 : Nat) ≤ 5; omega
  split; · show (0 + 1 : Nat) ≤ 5; omega
  split; · exact hd _
  split; · exact hd _
  split; · exact hd _
  split; · exact hd _
  split; · exact hd _
  exact hd _
theorem cst_one (c : Int → Nat) (t : ByteArray) (a : Fm) : cst c (callOne t a) ≤ cst c a + 5 := by
  unfold callOne
  split; · show ((((((0 + 1) + 0) + 1) + (cst c a + 0)) + 1 + 0) + 1 : Nat) ≤ cst c a + 5; omega
  split; · show ((cst c a + ((0 + 1) + ((0 + 1) + 0))) + 1 : Nat) ≤ cst c a + 5; omega
  show ((cst c a + ((((0 + 1) + 0) + 1) + 0)) + 1 : Nat) ≤ cst c a + 5; omega
theorem cst_form (c : Int → Nat) (n : Nd) : cst c (form n) ≤ ((Tr.links n).map c).sum + 5 := by
  have key : ∀ k, Tr.kids n.op = k → Tr.links n = [n.a, n.b, n.c].take k := fun k h => by unfold Tr.links; rw [h]
  have two : ∀ (h : Tr.kids n.op = 2), Tr.links n = [n.a, n.b] := fun h => key 2 h
  have one : ∀ (h : Tr.kids n.op = 1), Tr.links n = [n.a] := fun h => key 1 h
  have thr : ∀ (h : Tr.kids n.op = 3), Tr.links n = [n.a, n.b, n.c] := fun h => key 3 h
  have hc : ∀ x, cst c (con x) ≤ ((Tr.links n).map c).sum + 5 := fun x => by show (0 + 1 : Nat) ≤ _; omega
  by_cases h1 : n.op = 1
  · rw [form_1 h1]
    show (0 + 1 : Nat) ≤ _; omega
  by_cases h5 : n.op = 5
  · rw [form_5 h5]
    rw [two (by rw [h5]; rfl)]
    simp only [cst, over, con, truth, l1, l2, l3, List.map_cons, List.map_nil, List.sum_cons, List.sum_nil]
    omega
  by_cases h6 : n.op = 6
  · rw [form_6 h6]
    rw [two (by rw [h6]; rfl)]
    simp only [cst, over, con, truth, l1, l2, l3, List.map_cons, List.map_nil, List.sum_cons, List.sum_nil]
    omega
  by_cases h7 : n.op = 7
  · rw [form_7 h7]
    rw [two (by rw [h7]; rfl)]
    simp only [cst, over, con, truth, l1, l2, l3, List.map_cons, List.map_nil, List.sum_cons, List.sum_nil]
    omega
  by_cases h8 : n.op = 8
  · rw [form_8 h8]
    rw [two (by rw [h8]; rfl)]
    simp only [cst, over, con, truth, l1, l2, l3, List.map_cons, List.map_nil, List.sum_cons, List.sum_nil]
    omega
  by_cases h9 : n.op = 9
  · rw [form_9 h9]
    rw [two (by rw [h9]; rfl)]
    simp only [cst, over, con, truth, l1, l2, l3, List.map_cons, List.map_nil, List.sum_cons, List.sum_nil]
    omega
  by_cases h10 : n.op = 10
  · rw [form_10 h10]
    rw [two (by rw [h10]; rfl)]
    simp only [cst, over, con, truth, l1, l2, l3, List.map_cons, List.map_nil, List.sum_cons, List.sum_nil]
    omega
  by_cases h11 : n.op = 11
  · rw [form_11 h11]
    rw [two (by rw [h11]; rfl)]
    simp only [cst, over, con, truth, l1, l2, l3, List.map_cons, List.map_nil, List.sum_cons, List.sum_nil]
    omega
  by_cases h12 : n.op = 12
  · rw [form_12 h12]
    rw [one (by rw [h12]; rfl)]
    simp only [cst, over, con, truth, l1, l2, l3, List.map_cons, List.map_nil, List.sum_cons, List.sum_nil]
    omega
  by_cases h13 : n.op = 13
  · rw [form_13 h13]
    rw [one (by rw [h13]; rfl)]
    simp only [cst, over, con, truth, l1, l2, l3, List.map_cons, List.map_nil, List.sum_cons, List.sum_nil]
    omega
  by_cases h14 : n.op = 14
  · rw [form_14 h14]
    rw [one (by rw [h14]; rfl)]
    simp only [cst, over, con, truth, l1, l2, l3, List.map_cons, List.map_nil, List.sum_cons, List.sum_nil]
    omega
  by_cases h17 : n.op = 17
  · rw [form_17 h17]
    rw [two (by rw [h17]; rfl)]
    simp only [cst, over, con, truth, l1, l2, l3, List.map_cons, List.map_nil, List.sum_cons, List.sum_nil]
    omega
  by_cases h18 : n.op = 18
  · rw [form_18 h18]
    rw [thr (by rw [h18]; rfl)]
    simp only [cst, over, con, truth, l1, l2, l3, List.map_cons, List.map_nil, List.sum_cons, List.sum_nil]
    omega
  by_cases h19 : n.op = 19
  · rw [form_19 h19]
    rw [thr (by rw [h19]; rfl)]
    simp only [cst, over, con, truth, l1, l2, l3, List.map_cons, List.map_nil, List.sum_cons, List.sum_nil]
    omega
  by_cases h20 : n.op = 20
  · rw [form_20 h20]
    rw [two (by rw [h20]; rfl)]
    simp only [cst, over, con, truth, l1, l2, l3, List.map_cons, List.map_nil, List.sum_cons, List.sum_nil]
    omega
  by_cases h21 : n.op = 21
  · rw [form_21 h21]
    show (1 : Nat) ≤ _; omega
  by_cases h22 : n.op = 22
  · rw [form_22 h22]
    have := cst_call c n.text; omega
  by_cases h23 : n.op = 23
  · rw [form_23 h23]
    rw [one (by rw [h23]; rfl)]
    have := cst_one c n.text (.tree n.a)
    simp only [cst] at this
    simp only [List.map_cons, List.map_nil, List.sum_cons, List.sum_nil]
    omega
  by_cases h24 : n.op = 24
  · rw [form_24 h24]
    show (((0 + 1) + 0) + 1 : Nat) ≤ _; omega
  by_cases h2 : n.op = 2
  · rw [form_2 h2]
    exact hc _
  by_cases h3 : n.op = 3
  · rw [form_3 h3]
    exact hc _
  by_cases h15 : n.op = 15
  · rw [form_15 h15]
    exact hc _
  by_cases h16 : n.op = 16
  · rw [form_16 h16]
    exact hc _
  rw [form_no h1 h5 h6 h7 h8 h9 h10 h11 h12 h13 h14 h17 h18 h19 h20 h21 h22 h23 h24 h2 h3 h15 h16]
  exact hc _
theorem sum_five (xs : List Int) (g : Int → List Int) : ((xs.map fun x => 5 * (g x).length).sum) = 5 * (xs.flatMap g).length := by
  induction xs with
  | nil => rfl
  | cons a r ih => rw [List.map_cons, List.sum_cons, ih, List.flatMap_cons, List.length_append]; omega
theorem low_len (l : List Nd) (f : Nat) : ∀ i ns s, (low l f i ns s).1.length ≤ s.length + 5 * (Tr.ordF f l i.toNat).length := by
  induction f with
  | zero => intro i ns s; exact Nat.le_add_right _ _
  | succ f ih =>
    intro i ns s
    have h1 := lay_len (low l f) (fun x => 5 * (Tr.ordF f l x.toNat).length) ih (form (l.getD i.toNat Nd.zero)) ns s
    have h2 := cst_form (fun x => 5 * (Tr.ordF f l x.toNat).length) (l.getD i.toNat Nd.zero)
    rw [sum_five (Tr.links (l.getD i.toNat Nd.zero)) (fun x => Tr.ordF f l x.toNat)] at h2
    rw [low_succ]
    show (lay (low l f) (form (l.getD i.toNat Nd.zero)) ns s).1.length ≤ _
    rw [Tr.ordF, List.length_append, List.length_singleton]
    omega
/-- Nothing that was laid is changed. -/
def Grows (rec : Rec) : Prop := ∀ i ns s, ∃ r, (rec i ns s).1 = s ++ r
theorem lay_grows {rec : Rec} (h : Grows rec) (F : Fm) : ∀ ns s, ∃ r, (lay rec F ns s).1 = s ++ r := by
  induction F with
  | nil => intro ns s; exact ⟨[], (List.append_nil _).symm⟩
  | cons a b iha ihb =>
    intro ns s
    obtain ⟨r, hr⟩ := iha ns s
    obtain ⟨q, hq⟩ := ihb ns (lay rec a ns s).1
    exact ⟨r ++ q, by show (lay rec b ns (lay rec a ns s).1).1 = _; rw [hq, hr, List.append_assoc]⟩
  | tree i => intro ns s; exact h i ns s
  | var t => intro ns s; exact ⟨_, rfl⟩
  | node op num val ps ih =>
    intro ns s
    obtain ⟨r, hr⟩ := ih ns s
    exact ⟨r ++ [mk op num val (lay rec ps ns s).2], by show (lay rec ps ns s).1 ++ _ = _; rw [hr, List.append_assoc]⟩
  | bind op t a b iha ihb =>
    intro ns s
    obtain ⟨r, hr⟩ := iha ns s
    obtain ⟨q, hq⟩ := ihb (ns ++ [t]) (lay rec a ns s).1
    exact ⟨_, by show (lay rec b (ns ++ [t]) (lay rec a ns s).1).1 ++ _ = _; rw [hq, hr, List.append_assoc, List.append_assoc]⟩
theorem low_grows (l : List Nd) (f : Nat) : Grows (low l f) := by
  induction f with
  | zero => intro i ns s; exact ⟨[], (List.append_nil _).symm⟩
  | succ f ih => intro i ns s; exact lay_grows ih _ ns s
/-- The slot of a name that is there is its last place. -/
theorem slotK_is (ns : List ByteArray) (t : ByteArray) (k j : Nat) (hj : j < k) (h1 : ((ns.getD j ByteArray.empty).toList == t.toList) = true) (h2 : ∀ i, j < i → i < k → ((ns.getD i ByteArray.empty).toList == t.toList) = false) : slotK ns t k = j := by
  induction k with
  | zero => omega
  | succ k ih =>
    rw [slotK]
    by_cases hk : j = k
    · subst hk; rw [if_pos h1]
    · rw [if_neg (by rw [h2 k (by omega) (by omega)]; decide)]
      exact ih (by omega) (fun i hi hik => h2 i hi (by omega))
end Lw
end Go.Proofs.Ytmbefapdckhjdaa
