/-
  Cores, plainly: nodes, their faults, and a core as a tree of the same order.
-/
import Derived.Test.YtbaanpgbfncdnaaGreatQ01
import Derived.Test.YtbaanpgbfncdnaaGreatQ15
namespace Go.Proofs.YtbaanpgbfncdnaaGreat
open Go.RowKit
set_option linter.unusedVariables false
set_option linter.unusedSimpArgs false

/-- A node of a core, by its fields. -/
structure Co where
  op : Int
  a : Int
  b : Int
  c : Int
  num : Int
  val : List M.Cl
namespace Co
def zero : Co := ⟨0, 0, 0, 0, 0, []⟩
def kids (op : Int) : Nat := if op = 12 ∨ op = 13 then 3 else if (3 ≤ op ∧ op ≤ 7) ∨ op = 11 ∨ op = 14 then 2 else if 8 ≤ op ∧ op ≤ 10 then 1 else 0
theorem kids_le (op : Int) : kids op ≤ 3 := by unfold kids; split <;> (try split) <;> (try split) <;> omega
def low (op : Int) : Int := if op = 6 ∨ op = 16 then 1 else 0
def high (op : Int) : Int := if op = 6 then 11 else if op = 13 ∨ op = 14 ∨ op = 15 then 59 else if op = 16 then 8 else 0
def hasVal (op : Int) : Bool := op == 2 || op == 11
/-- The fault of what a node holds. -/
def valF (c : Co) : Int := if hasVal c.op = true then (if M.valueFault c.val ≠ 0 then M.valueFault c.val else if c.op = 11 ∧ (c.val.getD 0 M.zero).kind ≠ 4 then 6 else 0) else if 0 < c.val.length then 1 else 0
def formOk (c : Co) (i : Nat) : Bool := Tr.linksOk (kids c.op) c.a c.b c.c i && (high c.op != 0 || c.num == 0)
def nodeF (l : List Co) (i : Nat) : Int :=
  if (l.getD i zero).op < 1 ∨ 17 < (l.getD i zero).op then 6 else if formOk (l.getD i zero) i = false then 1 else if valF (l.getD i zero) ≠ 0 then valF (l.getD i zero) else if (l.getD i zero).num < low (l.getD i zero).op ∨ high (l.getD i zero).op < (l.getD i zero).num then 3 else 0
theorem node_6 {l : List Co} {i : Nat} {n : Co} (hn : n = l.getD i zero) (h : n.op < 1 ∨ 17 < n.op) : nodeF l i = 6 := by subst hn; unfold nodeF; rw [if_pos h]
theorem node_1 {l : List Co} {i : Nat} {n : Co} (hn : n = l.getD i zero) (h : ¬ (n.op < 1 ∨ 17 < n.op)) (h1 : formOk n i = false) : nodeF l i = 1 := by subst hn; unfold nodeF; rw [if_neg h, if_pos h1]
theorem node_v {l : List Co} {i : Nat} {n : Co} (hn : n = l.getD i zero) (h : ¬ (n.op < 1 ∨ 17 < n.op)) (h1 : formOk n i = true) (h2 : valF n ≠ 0) : nodeF l i = valF n := by subst hn; unfold nodeF; rw [if_neg h, if_neg (by rw [h1]; decide), if_pos h2]
theorem node_3 {l : List Co} {i : Nat} {n : Co} (hn : n = l.getD i zero) (h : ¬ (n.op < 1 ∨ 17 < n.op)) (h1 : formOk n i = true) (h2 : valF n = 0) (h3 : n.num < low n.op ∨ high n.op < n.num) : nodeF l i = 3 := by subst hn; unfold nodeF; rw [if_neg h, if_neg (by rw [h1]; decide), if_neg (fun h => h h2), if_pos h3]
theorem node_0 {l : List Co} {i : Nat} {n : Co} (hn : n = l.getD i zero) (h : ¬ (n.op < 1 ∨ 17 < n.op)) (h1 : formOk n i = true) (h2 : valF n = 0) (h3 : ¬ (n.num < low n.op ∨ high n.op < n.num)) : nodeF l i = 0 := by subst hn; unfold nodeF; rw [if_neg h, if_neg (by rw [h1]; decide), if_neg (fun h => h h2), if_neg h3]
theorem form_no {n : Co} {i : Nat} (h : Tr.linksOk (kids n.op) n.a n.b n.c i = false ∨ (high n.op = 0 ∧ n.num ≠ 0)) : formOk n i = false := by
  unfold formOk
  rcases h with h | ⟨h1, h2⟩
  · rw [h]; rfl
  · rw [Bool.and_eq_false_iff]; right; simp [h1, h2]
theorem form_yes {n : Co} {i : Nat} (h : Tr.linksOk (kids n.op) n.a n.b n.c i = true) (h1 : high n.op ≠ 0 ∨ n.num = 0) : formOk n i = true := by
  unfold formOk
  rw [h, Bool.true_and]
  rcases h1 with h1 | h1
  · simp [h1]
  · simp [h1]
theorem form_parts {n : Co} {i : Nat} (h : formOk n i = true) : Tr.linksOk (kids n.op) n.a n.b n.c i = true ∧ (high n.op ≠ 0 ∨ n.num = 0) := by
  unfold formOk at h
  rw [Bool.and_eq_true] at h
  refine ⟨h.1, ?_⟩
  by_cases hz : high n.op = 0
  · right; have := h.2; simp [hz] at this; exact this
  · exact .inl hz
theorem node_parts {l : List Co} {i : Nat} (h : nodeF l i = 0) : (1 ≤ (l.getD i zero).op ∧ (l.getD i zero).op ≤ 17) ∧ formOk (l.getD i zero) i = true ∧ valF (l.getD i zero) = 0 ∧ (low (l.getD i zero).op ≤ (l.getD i zero).num ∧ (l.getD i zero).num ≤ high (l.getD i zero).op) := by
  unfold nodeF at h
  split at h
  · cases h
  split at h
  · cases h
  split at h
  · rename_i h3; exact absurd h h3
  split at h
  · cases h
  · rename_i h1 h2 h3 h4
    refine ⟨by omega, ?_, by simpa using h3, by omega⟩
    cases hf : formOk (l.getD i zero) i with
    | true => rfl
    | false => exact absurd hf h2
def nf (l : List Co) : Nat → Int
  | 0 => 0
  | k + 1 => if nf l k = 0 then nodeF l k else nf l k
theorem nf_stop {l : List Co} {k : Nat} (h : nf l k ≠ 0) (m : Nat) (hm : k ≤ m) : nf l m = nf l k := by
  induction m with
  | zero => have : k = 0 := by omega
            subst this; rfl
  | succ m ih =>
    by_cases e : k = m + 1
    · subst e; rfl
    · have := ih (by omega)
      rw [nf, if_neg (by rw [this]; exact h), this]
theorem nf_all {l : List Co} {k : Nat} (h : nf l k = 0) : ∀ i, i < k → nodeF l i = 0 := by
  induction k with
  | zero => intro i hi; omega
  | succ k ih =>
    intro i hi
    rw [nf] at h
    split at h
    · rename_i h0
      by_cases e : i = k
      · subst e; exact h
      · exact ih h0 i (by omega)
    · rename_i h0; exact absurd h h0
theorem nf_next {l : List Co} {k : Nat} (h : nf l k = 0) (h1 : nodeF l k = 0) : nf l (k + 1) = 0 := by rw [nf, if_pos h, h1]
/-- A slot as a text. -/
def slotT (n : Int) : ByteArray := ⟨(List.replicate n.toNat (0 : UInt8)).toArray⟩
theorem slotT_eq {m n : Int} (hm : 0 ≤ m) (hn : 0 ≤ n) : ((slotT m).toList == (slotT n).toList) = (m == n) := by
  have e : ∀ k : Int, (slotT k).toList = List.replicate k.toNat (0 : UInt8) := fun k => by rw [ByteArray.toList_eq]; simp [slotT]
  rw [e, e]
  by_cases h : m = n
  · subst h; simp
  · have h1 : m.toNat ≠ n.toNat := by omega
    have h2 : List.replicate m.toNat (0 : UInt8) ≠ List.replicate n.toNat (0 : UInt8) := fun h => h1 (by have := congrArg List.length h; simpa using this)
    rw [beq_eq_false_iff_ne.2 h2, beq_eq_false_iff_ne.2 h]
/-- The op of a tree's node that names as many and binds alike. -/
def ndOp (op : Int) : Int := if op = 14 then 20 else if op = 13 then 19 else if op = 15 then 21 else if op = 12 then 18 else if (3 ≤ op ∧ op ≤ 7) ∨ op = 11 then 5 else if 8 ≤ op ∧ op ≤ 10 then 12 else 1
def nd (c : Co) : Nd := ⟨ndOp c.op, c.a, c.b, c.c, 0, slotT c.num⟩
theorem nd_kids (op : Int) : Tr.kids (ndOp op) = kids op := by
  by_cases h : 3 ≤ op ∧ op ≤ 15
  · have h2 : op = 3 ∨ op = 4 ∨ op = 5 ∨ op = 6 ∨ op = 7 ∨ op = 8 ∨ op = 9 ∨ op = 10 ∨ op = 11 ∨ op = 12 ∨ op = 13 ∨ op = 14 ∨ op = 15 := by omega
    rcases h2 with rfl | rfl | rfl | rfl | rfl | rfl | rfl | rfl | rfl | rfl | rfl | rfl | rfl <;> decide
  · have e1 : ndOp op = 1 := by unfold ndOp; rw [if_neg (by omega), if_neg (by omega), if_neg (by omega), if_neg (by omega), if_neg (by omega), if_neg (by omega)]
    have e2 : kids op = 0 := by unfold kids; rw [if_neg (by omega), if_neg (by omega), if_neg (by omega)]
    rw [e1, e2]
    decide
def tree (l : List Co) : List Nd := l.map nd
theorem tree_length (l : List Co) : (tree l).length = l.length := by simp [tree]
theorem tree_getD (l : List Co) {i : Nat} (hi : i < l.length) : (tree l).getD i Nd.zero = nd (l.getD i zero) := by
  unfold tree
  rw [List.getD_eq_getElem?_getD, List.getD_eq_getElem?_getD, List.getElem?_map, List.getElem?_eq_getElem hi]
  rfl
theorem tree_links (l : List Co) {i : Nat} (hi : i < l.length) : Tr.links ((tree l).getD i Nd.zero) = [(l.getD i zero).a, (l.getD i zero).b, (l.getD i zero).c].take (kids (l.getD i zero).op) := by
  rw [tree_getD l hi]
  unfold Tr.links
  show List.take (Tr.kids (ndOp _)) _ = _
  rw [nd_kids]
  rfl
theorem fine_of {l : List Co} (h : nf l l.length = 0) : Tr.Fine (tree l) := by
  intro i hi
  rw [tree_length] at hi
  have hp := form_parts (node_parts (nf_all h i hi)).2.1
  rw [tree_getD l hi]
  refine Tr.links_fine (n := nd (l.getD i zero)) ?_
  show Tr.linksOk (Tr.kids (ndOp _)) _ _ _ _ = true
  rw [nd_kids]
  exact hp.1
/-- Does a node bind its slot in what stands at a place? -/
def binds (n : Co) (x : Int) : Bool := (n.op == 14 && n.b == x) || (n.op == 13 && n.c == x)
theorem ndOp_20 (op : Int) : (ndOp op == 20) = (op == 14) := by
  unfold ndOp
  by_cases h : op = 14
  · subst h; rfl
  · rw [if_neg h, beq_eq_false_iff_ne.2 h]
    split; · rfl
    split; · rfl
    split; · rfl
    split; · rfl
    split; · rfl
    rfl
theorem ndOp_19 (op : Int) : (ndOp op == 19) = (op == 13) := by
  unfold ndOp
  by_cases h : op = 14
  · subst h; rfl
  · rw [if_neg h]
    by_cases h3 : op = 13
    · subst h3; rfl
    · rw [if_neg h3, beq_eq_false_iff_ne.2 h3]
      split; · rfl
      split; · rfl
      split; · rfl
      split; · rfl
      rfl
theorem nd_binds (n : Co) (x : Int) : Tr.binds (nd n) x = binds n x := by
  unfold Tr.binds binds
  show ((ndOp n.op == 20 && n.b == x) || (ndOp n.op == 19 && n.c == x)) = _
  rw [ndOp_20, ndOp_19]
/-- Is a variable at a place not known? -/
def unk (l : List Co) (i : Nat) : Bool := (l.getD i zero).op == 15 && !Tr.bound (tree l) i (slotT (l.getD i zero).num)
/-- Whether each of the first k is known. -/
def known (l : List Co) (k : Nat) : Bool := (List.range k).all fun i => !unk l i
def fault (l : List Co) : Int :=
  if l.length < 1 ∨ 900 < l.length then 2 else if nf l l.length ≠ 0 then nf l l.length else if Tr.inOrder (tree l) = false then 1 else if known l l.length = false then 4 else if 120 < Tr.dep (tree l) (l.length - 1) then 7 else 0
theorem fault_many {l : List Co} (h : l.length < 1 ∨ 900 < l.length) : fault l = 2 := by unfold fault; rw [if_pos h]
theorem fault_node {l : List Co} (h : ¬ (l.length < 1 ∨ 900 < l.length)) {k : Nat} (hk : k < l.length) (h0 : nf l k = 0) (h1 : nodeF l k ≠ 0) : fault l = nodeF l k := by
  have h2 : nf l (k + 1) = nodeF l k := by rw [nf, if_pos h0]
  have h3 := nf_stop (l := l) (k := k + 1) (by rw [h2]; exact h1) l.length (by omega)
  unfold fault
  rw [if_neg h, if_pos (by rw [h3, h2]; exact h1), h3, h2]
theorem fault_order {l : List Co} (h : ¬ (l.length < 1 ∨ 900 < l.length)) (h0 : nf l l.length = 0) (h1 : Tr.inOrder (tree l) = false) : fault l = 1 := by
  unfold fault; rw [if_neg h, if_neg (by simp [h0]), if_pos h1]
theorem fault_known {l : List Co} (h : ¬ (l.length < 1 ∨ 900 < l.length)) (h0 : nf l l.length = 0) (h1 : Tr.inOrder (tree l) = true) (h2 : known l l.length = false) : fault l = 4 := by
  unfold fault; rw [if_neg h, if_neg (by simp [h0]), if_neg (by rw [h1]; decide), if_pos h2]
theorem fault_deep {l : List Co} (h : ¬ (l.length < 1 ∨ 900 < l.length)) (h0 : nf l l.length = 0) (h1 : Tr.inOrder (tree l) = true) (h2 : known l l.length = true) (h3 : 120 < Tr.dep (tree l) (l.length - 1)) : fault l = 7 := by
  unfold fault; rw [if_neg h, if_neg (by simp [h0]), if_neg (by rw [h1]; decide), if_neg (by rw [h2]; decide), if_pos h3]
theorem fault_ok {l : List Co} (h : ¬ (l.length < 1 ∨ 900 < l.length)) (h0 : nf l l.length = 0) (h1 : Tr.inOrder (tree l) = true) (h2 : known l l.length = true) (h3 : ¬ 120 < Tr.dep (tree l) (l.length - 1)) : fault l = 0 := by
  unfold fault; rw [if_neg h, if_neg (by simp [h0]), if_neg (by rw [h1]; decide), if_neg (by rw [h2]; decide), if_neg h3]
/-- How a core lies in memory: each node's fields, and a row of its own cells. -/
def At (w : World) (b o : Nat) (c : Co) : Prop := w.cell? ⟨b, o, none⟩ = some (.int .i64 c.op) ∧ w.cell? ⟨b, o + 1, none⟩ = some (.int .i64 c.a) ∧ w.cell? ⟨b, o + 2, none⟩ = some (.int .i64 c.b) ∧ w.cell? ⟨b, o + 3, none⟩ = some (.int .i64 c.c) ∧ w.cell? ⟨b, o + 4, none⟩ = some (.int .i64 c.num) ∧ ∃ g : Nat, w.cell? ⟨b, o + 5, none⟩ = some (.slice (some ⟨g, 0, none⟩) c.val.length c.val.length) ∧ g < w.heap.size ∧ Row w g 0 c.val
def Row (w : World) (b : Nat) (l : List Co) : Prop := ∀ i, i < l.length → At w b (i * 6) (l.getD i zero)
theorem Row.below {w w' : World} {b : Nat} {l : List Co} (h : Row w b l) (hb : Below w.heap.size w w') (hB : b < w.heap.size) : Row w' b l := by
  intro i hi
  obtain ⟨h0, h1, h2, h3, h4, g, h5, hg, hr⟩ := h i hi
  exact ⟨(hb.cell (by exact hB)).trans h0, (hb.cell (by exact hB)).trans h1, (hb.cell (by exact hB)).trans h2, (hb.cell (by exact hB)).trans h3, (hb.cell (by exact hB)).trans h4, g, (hb.cell (by exact hB)).trans h5, Nat.lt_of_lt_of_le hg hb.size, hr.below hb hg⟩
/-- What each field must be to lie in memory. -/
def ok (c : Co) : Prop := (-9223372036854775808 ≤ c.op ∧ c.op ≤ 9223372036854775807) ∧ (-9223372036854775808 ≤ c.a ∧ c.a ≤ 9223372036854775807) ∧ (-9223372036854775808 ≤ c.b ∧ c.b ≤ 9223372036854775807) ∧ (-9223372036854775808 ≤ c.c ∧ c.c ≤ 9223372036854775807) ∧ (-9223372036854775808 ≤ c.num ∧ c.num ≤ 9223372036854775807) ∧ ∀ x ∈ c.val, x.ok
end Co

end Go.Proofs.YtbaanpgbfncdnaaGreat
