/-
  Cores, plainly: nodes, their faults, and a core as a tree of the same order.
  Small questions of a node of a core, both sides.
  impl.valFault, impl.coreNodeFault.
-/
import Derived.Test.YtkjmnkbiflkpdaaScoM
import Derived.Test.YtkjmnkbiflkpdaaMem
import Derived.Test.YtkjmnkbiflkpdaaText
import Derived.Test.YtkjmnkbiflkpdaaTreC
import Derived.Test.YtkjmnkbiflkpdaaFaultI
import Derived.Test.YtkjmnkbiflkpdaaKids
import Derived.Laws.EntriesVeiled
namespace Go.Proofs.Ytkjmnkbiflkpdaa
open Go.RowKit
set_option linter.unusedVariables false
set_option linter.unusedSimpArgs false


/-- A node of a core, by its fields. -/
structure Co where
  op : Int
  a : Int
  b : Int
  c : Int
  num : Int
  val : List M.Cl
namespace Co
def zero : Co := ⟨0, 0, 0, 0, 0, []⟩
def kids (op : Int) : Nat := if op = 12 ∨ op = 13 then 3 else if (3 ≤ op ∧ op ≤ 7) ∨ op = 11 ∨ op = 14 then 2 else if 8 ≤ op ∧ op ≤ 10 then 1 else 0
theorem kids_le (op : Int) : kids op ≤ 3 := by unfold kids; split <;> (try split) <;> (try split) <;> omega
def low (op : Int) : Int := if op = 6 ∨ op = 16 then 1 else 0
def high (op : Int) : Int := if op = 6 then 11 else if op = 13 ∨ op = 14 ∨ op = 15 then 59 else if op = 16 then 8 else 0
def hasVal (op : Int) : Bool := op == 2 || op == 11
/-- The fault of what a node holds. -/
def valF (c : Co) : Int := if hasVal c.op = true then (if M.valueFault c.val ≠ 0 then M.valueFault c.val else if c.op = 11 ∧ (c.val.getD 0 M.zero).kind ≠ 4 then 6 else 0) else if 0 < c.val.length then 1 else 0
def formOk (c : Co) (i : Nat) : Bool := Tr.linksOk (kids c.op) c.a c.b c.c i && (high c.op != 0 || c.num == 0)
def nodeF (l : List Co) (i : Nat) : Int :=
  if (l.getD i zero).op < 1 ∨ 17 < (l.getD i zero).op then 6 else if formOk (l.getD i zero) i = false then 1 else if valF (l.getD i zero) ≠ 0 then valF (l.getD i zero) else if (l.getD i zero).num < low (l.getD i zero).op ∨ high (l.getD i zero).op < (l.getD i zero).num then 3 else 0
theorem node_6 {l : List Co} {i : Nat} {n : Co} (hn : n = l.getD i zero) (h : n.op < 1 ∨ 17 < n.op) : nodeF l i = 6 := by subst hn; unfold nodeF; rw [if_pos h]
theorem node_1 {l : List Co} {i : Nat} {n : Co} (hn : n = l.getD i zero) (h : ¬ (n.op < 1 ∨ 17 < n.op)) (h1 : formOk n i = false) : nodeF l i = 1 := by subst hn; unfold nodeF; rw [if_neg h, if_pos h1]
theorem node_v {l : List Co} {i : Nat} {n : Co} (hn : n = l.getD i zero) (h : ¬ (n.op < 1 ∨ 17 < n.op)) (h1 : formOk n i = true) (h2 : valF n ≠ 0) : nodeF l i = valF n := by subst hn; unfold nodeF; rw [if_neg h, if_neg (by rw [h1]; decide), if_pos h2]
theorem node_3 {l : List Co} {i : Nat} {n : Co} (hn : n = l.getD i zero) (h : ¬ (n.op < 1 ∨ 17 < n.op)) (h1 : formOk n i = true) (h2 : valF n = 0) (h3 : n.num < low n.op ∨ high n.op < n.num) : nodeF l i = 3 := by subst hn; unfold nodeF; rw [if_neg h, if_neg (by rw [h1]; decide), if_neg (fun h => h h2), if_pos h3]
theorem node_0 {l : List Co} {i : Nat} {n : Co} (hn : n = l.getD i zero) (h : ¬ (n.op < 1 ∨ 17 < n.op)) (h1 : formOk n i = true) (h2 : valF n = 0) (h3 : ¬ (n.num < low n.op ∨ high n.op < n.num)) : nodeF l i = 0 := by subst hn; unfold nodeF; rw [if_neg h, if_neg (by rw [h1]; decide), if_neg (fun h => h h2), if_neg h3]
theorem form_no {n : Co} {i : Nat} (h : Tr.linksOk (kids n.op) n.a n.b n.c i = false ∨ (high n.op = 0 ∧ n.num ≠ 0)) : formOk n i = false := by
  unfold formOk
  rcases h with h | ⟨h1, h2⟩
  · rw [h]; rfl
  · rw [Bool.and_eq_false_iff]; right; simp [h1, h2]
theorem form_yes {n : Co} {i : Nat} (h : Tr.linksOk (kids n.op) n.a n.b n.c i = true) (h1 : high n.op ≠ 0 ∨ n.num = 0) : formOk n i = true := by
  unfold formOk
  rw [h, Bool.true_and]
  rcases h1 with h1 | h1
  · simp [h1]
  · simp [h1]
theorem form_parts {n : Co} {i : Nat} (h : formOk n i = true) : Tr.linksOk (kids n.op) n.a n.b n.c i = true ∧ (high n.op ≠ 0 ∨ n.num = 0) := by
  unfold formOk at h
  rw [Bool.and_eq_true] at h
  refine ⟨h.1, ?_⟩
  by_cases hz : high n.op = 0
  · right; have := h.2; simp [hz] at this; exact this
  · exact .inl hz
theorem node_parts {l : List Co} {i : Nat} (h : nodeF l i = 0) : (1 ≤ (l.getD i zero).op ∧ (l.getD i zero).op ≤ 17) ∧ formOk (l.getD i zero) i = true ∧ valF (l.getD i zero) = 0 ∧ (low (l.getD i zero).op ≤ (l.getD i zero).num ∧ (l.getD i zero).num ≤ high (l.getD i zero).op) := by
  unfold nodeF at h
  split at h
  · cases h
  split at h
  · cases h
  split at h
  · rename_i h3; exact absurd h h3
  split at h
  · cases h
  · rename_i h1 h2 h3 h4
    refine ⟨by omega, ?_, by simpa using h3, by omega⟩
    cases hf : formOk (l.getD i zero) i with
    | true => rfl
    | false => exact absurd hf h2
def nf (l : List Co) : Nat → Int
  | 0 => 0
  | k + 1 => if nf l k = 0 then nodeF l k else nf l k
theorem nf_stop {l : List Co} {k : Nat} (h : nf l k ≠ 0) (m : Nat) (hm : k ≤ m) : nf l m = nf l k := by
  induction m with
  | zero => have : k = 0 := by omega
            subst this; rfl
  | succ m ih =>
    by_cases e : k = m + 1
    · subst e; rfl
    · have := ih (by omega)
      rw [nf, if_neg (by rw [this]; exact h), this]
theorem nf_all {l : List Co} {k : Nat} (h : nf l k = 0) : ∀ i, i < k → nodeF l i = 0 := by
  induction k with
  | zero => intro i hi; omega
  | succ k ih =>
    intro i hi
    rw [nf] at h
    split at h
    · rename_i h0
      by_cases e : i = k
      · subst e; exact h
      · exact ih h0 i (by omega)
    · rename_i h0; exact absurd h h0
theorem nf_next {l : List Co} {k : Nat} (h : nf l k = 0) (h1 : nodeF l k = 0) : nf l (k + 1) = 0 := by rw [nf, if_pos h, h1]
/-- A slot as a text. -/
def slotT (n : Int) : ByteArray := ⟨(List.replicate n.toNat (0 : UInt8)).toArray⟩
theorem slotT_eq {m n : Int} (hm : 0 ≤ m) (hn : 0 ≤ n) : ((slotT m).toList == (slotT n).toList) = (m == n) := by
  have e : ∀ k : Int, (slotT k).toList = List.replicate k.toNat (0 : UInt8) := fun k => by rw [ByteArray.toList_eq]; simp [slotT]
  rw [e, e]
  by_cases h : m = n
  · subst h; simp
  · have h1 : m.toNat ≠ n.toNat := by omega
    have h2 : List.replicate m.toNat (0 : UInt8) ≠ List.replicate n.toNat (0 : UInt8) := fun h => h1 (by have := congrArg List.length h; simpa using this)
    rw [beq_eq_false_iff_ne.2 h2, beq_eq_false_iff_ne.2 h]
/-- The op of a tree's node that names as many and binds alike. -/
def ndOp (op : Int) : Int := if op = 14 then 20 else if op = 13 then 19 else if op = 15 then 21 else if op = 12 then 18 else if (3 ≤ op ∧ op ≤ 7) ∨ op = 11 then 5 else if 8 ≤ op ∧ op ≤ 10 then 12 else 1
def nd (c : Co) : Nd := ⟨ndOp c.op, c.a, c.b, c.c, 0, slotT c.num⟩
theorem nd_kids (op : Int) : Tr.kids (ndOp op) = kids op := by
  by_cases h : 3 ≤ op ∧ op ≤ 15
  · have h2 : op = 3 ∨ op = 4 ∨ op = 5 ∨ op = 6 ∨ op = 7 ∨ op = 8 ∨ op = 9 ∨ op = 10 ∨ op = 11 ∨ op = 12 ∨ op = 13 ∨ op = 14 ∨ op = 15 := by omega
    rcases h2 with rfl | rfl | rfl | rfl | rfl | rfl | rfl | rfl | rfl | rfl | rfl | rfl | rfl <;> decide
  · have e1 : ndOp op = 1 := by unfold ndOp; rw [if_neg (by omega), if_neg (by omega), if_neg (by omega), if_neg (by omega), if_neg (by omega), if_neg (by omega)]
    have e2 : kids op = 0 := by unfold kids; rw [if_neg (by omega), if_neg (by omega), if_neg (by omega)]
    rw [e1, e2]
    decide
def tree (l : List Co) : List Nd := l.map nd
theorem tree_length (l : List Co) : (tree l).length = l.length := by simp [tree]
theorem tree_getD (l : List Co) {i : Nat} (hi : i < l.length) : (tree l).getD i Nd.zero = nd (l.getD i zero) := by
  unfold tree
  rw [List.getD_eq_getElem?_getD, List.getD_eq_getElem?_getD, List.getElem?_map, List.getElem?_eq_getElem hi]
  rfl
theorem tree_links (l : List Co) {i : Nat} (hi : i < l.length) : Tr.links ((tree l).getD i Nd.zero) = [(l.getD i zero).a, (l.getD i zero).b, (l.getD i zero).c].take (kids (l.getD i zero).op) := by
  rw [tree_getD l hi]
  unfold Tr.links
  show List.take (Tr.kids (ndOp _)) _ = _
  rw [nd_kids]
  rfl
theorem fine_of {l : List Co} (h : nf l l.length = 0) : Tr.Fine (tree l) := by
  intro i hi
  rw [tree_length] at hi
  have hp := form_parts (node_parts (nf_all h i hi)).2.1
  rw [tree_getD l hi]
  refine Tr.links_fine (n := nd (l.getD i zero)) ?_
  show Tr.linksOk (Tr.kids (ndOp _)) _ _ _ _ = true
  rw [nd_kids]
  exact hp.1
/-- Does a node bind its slot in what stands at a place? -/
def binds (n : Co) (x : Int) : Bool := (n.op == 14 && n.b == x) || (n.op == 13 && n.c == x)
theorem ndOp_20 (op : Int) : (ndOp op == 20) = (op == 14) := by
  unfold ndOp
  by_cases h : op = 14
  · subst h; rfl
  · rw [if_neg h, beq_eq_false_iff_ne.2 h]
    split; · rfl
    split; · rfl
    split; · rfl
    split; · rfl
    split; · rfl
    rfl
theorem ndOp_19 (op : Int) : (ndOp op == 19) = (op == 13) := by
  unfold ndOp
  by_cases h : op = 14
  · subst h; rfl
  · rw [if_neg h]
    by_cases h3 : op = 13
    · subst h3; rfl
    · rw [if_neg h3, beq_eq_false_iff_ne.2 h3]
      split; · rfl
      split; · rfl
      split; · rfl
      split; · rfl
      rfl
theorem ndOp_21 (op : Int) : (ndOp op == 21) = (op == 15) := by
  unfold ndOp
  by_cases h : op = 15
  · subst h; rfl
  · rw [beq_eq_false_iff_ne.2 h]
    split; · rfl
    split; · rfl
    try rw [if_neg h]
    split; · rfl
    split; · rfl
    split; · rfl
    rfl
theorem nd_binds (n : Co) (x : Int) : Tr.binds (nd n) x = binds n x := by
  unfold Tr.binds binds
  show ((ndOp n.op == 20 && n.b == x) || (ndOp n.op == 19 && n.c == x)) = _
  rw [ndOp_20, ndOp_19]
/-- Is a variable at a place not known? -/
def unk (l : List Co) (i : Nat) : Bool := (l.getD i zero).op == 15 && !Tr.bound (tree l) i (slotT (l.getD i zero).num)
/-- Whether each of the first k is known. -/
def known (l : List Co) (k : Nat) : Bool := (List.range k).all fun i => !unk l i
def fault (l : List Co) : Int :=
  if l.length < 1 ∨ 900 < l.length then 2 else if nf l l.length ≠ 0 then nf l l.length else if Tr.inOrder (tree l) = false then 1 else if known l l.length = false then 4 else if 120 < Tr.dep (tree l) (l.length - 1) then 7 else 0
theorem fault_many {l : List Co} (h : l.length < 1 ∨ 900 < l.length) : fault l = 2 := by unfold fault; rw [if_pos h]
theorem fault_node {l : List Co} (h : ¬ (l.length < 1 ∨ 900 < l.length)) {k : Nat} (hk : k < l.length) (h0 : nf l k = 0) (h1 : nodeF l k ≠ 0) : fault l = nodeF l k := by
  have h2 : nf l (k + 1) = nodeF l k := by rw [nf, if_pos h0]
  have h3 := nf_stop (l := l) (k := k + 1) (by rw [h2]; exact h1) l.length (by omega)
  unfold fault
  rw [if_neg h, if_pos (by rw [h3, h2]; exact h1), h3, h2]
theorem fault_order {l : List Co} (h : ¬ (l.length < 1 ∨ 900 < l.length)) (h0 : nf l l.length = 0) (h1 : Tr.inOrder (tree l) = false) : fault l = 1 := by
  unfold fault; rw [if_neg h, if_neg (by simp [h0]), if_pos h1]
theorem fault_known {l : List Co} (h : ¬ (l.length < 1 ∨ 900 < l.length)) (h0 : nf l l.length = 0) (h1 : Tr.inOrder (tree l) = true) (h2 : known l l.length = false) : fault l = 4 := by
  unfold fault; rw [if_neg h, if_neg (by simp [h0]), if_neg (by rw [h1]; decide), if_pos h2]
theorem fault_deep {l : List Co} (h : ¬ (l.length < 1 ∨ 900 < l.length)) (h0 : nf l l.length = 0) (h1 : Tr.inOrder (tree l) = true) (h2 : known l l.length = true) (h3 : 120 < Tr.dep (tree l) (l.length - 1)) : fault l = 7 := by
  unfold fault; rw [if_neg h, if_neg (by simp [h0]), if_neg (by rw [h1]; decide), if_neg (by rw [h2]; decide), if_pos h3]
theorem fault_ok {l : List Co} (h : ¬ (l.length < 1 ∨ 900 < l.length)) (h0 : nf l l.length = 0) (h1 : Tr.inOrder (tree l) = true) (h2 : known l l.length = true) (h3 : ¬ 120 < Tr.dep (tree l) (l.length - 1)) : fault l = 0 := by
  unfold fault; rw [if_neg h, if_neg (by simp [h0]), if_neg (by rw [h1]; decide), if_neg (by rw [h2]; decide), if_neg h3]
/-- How a core lies in memory: each node's fields, and a row of its own cells. -/
def At (w : World) (b o : Nat) (c : Co) : Prop := w.cell? ⟨b, o, none⟩ = some (.int .i64 c.op) ∧ w.cell? ⟨b, o + 1, none⟩ = some (.int .i64 c.a) ∧ w.cell? ⟨b, o + 2, none⟩ = some (.int .i64 c.b) ∧ w.cell? ⟨b, o + 3, none⟩ = some (.int .i64 c.c) ∧ w.cell? ⟨b, o + 4, none⟩ = some (.int .i64 c.num) ∧ ∃ g : Nat, w.cell? ⟨b, o + 5, none⟩ = some (.slice (some ⟨g, 0, none⟩) c.val.length c.val.length) ∧ g < w.heap.size ∧ Row w g 0 c.val
def Row (w : World) (b : Nat) (l : List Co) : Prop := ∀ i, i < l.length → At w b (i * 6) (l.getD i zero)
theorem Row.below {w w' : World} {b : Nat} {l : List Co} (h : Row w b l) (hb : Below w.heap.size w w') (hB : b < w.heap.size) : Row w' b l := by
  intro i hi
  obtain ⟨h0, h1, h2, h3, h4, g, h5, hg, hr⟩ := h i hi
  exact ⟨(hb.cell (by exact hB)).trans h0, (hb.cell (by exact hB)).trans h1, (hb.cell (by exact hB)).trans h2, (hb.cell (by exact hB)).trans h3, (hb.cell (by exact hB)).trans h4, g, (hb.cell (by exact hB)).trans h5, Nat.lt_of_lt_of_le hg hb.size, hr.below hb hg⟩
/-- What each field must be to lie in memory. -/
def ok (c : Co) : Prop := (-9223372036854775808 ≤ c.op ∧ c.op ≤ 9223372036854775807) ∧ (-9223372036854775808 ≤ c.a ∧ c.a ≤ 9223372036854775807) ∧ (-9223372036854775808 ≤ c.b ∧ c.b ≤ 9223372036854775807) ∧ (-9223372036854775808 ≤ c.c ∧ c.c ≤ 9223372036854775807) ∧ (-9223372036854775808 ≤ c.num ∧ c.num ≤ 9223372036854775807) ∧ ∀ x ∈ c.val, x.ok
end Co

end Go.Proofs.Ytkjmnkbiflkpdaa

namespace Go.Proofs.Ytkjmnkbiflkpdaa
open Go.RowKit
set_option linter.unusedVariables false
set_option linter.unusedSimpArgs false

def coreV (op : Int) : Value := .agg #[.int .i64 (Co.kids op), .int .i64 (Co.low op), .int .i64 (Co.high op), .nilFunc]

set_option maxRecDepth 100000 in
set_option maxHeartbeats 1000000 in
theorem cshape_1 (w : World) : Calls Try.prog 59 #[.int .i64 1] w fun e w' => e = .returned (.agg #[.int .i64 0, .int .i64 0, .int .i64 0, .nilFunc]) ∧ Below w.heap.size w w' := by
  have HB : Hid (∀ o, Below w.heap.size w (w.alloc o)) := fun o => (Below.refl _ _).alloc (Nat.le_refl _) o
  go_enter Try.func59, Try.ntmps59
  go_wp2_with fail
  refine bodyPost_ret (v := .agg #[.int .i64 0, .int .i64 0, .int .i64 0, .nilFunc]) (by simp [results, Try.results59, go_sem]; try rfl) rfl ⟨rfl, ?_⟩
  repeat (first | exact HB.out _ | refine Below.setCell ?_ (Nat.le_refl _) _)

set_option maxRecDepth 100000 in
set_option maxHeartbeats 1000000 in
theorem cshape_2 (w : World) : Calls Try.prog 59 #[.int .i64 2] w fun e w' => e = .returned (.agg #[.int .i64 0, .int .i64 0, .int .i64 0, .nilFunc]) ∧ Below w.heap.size w w' := by
  have HB : Hid (∀ o, Below w.heap.size w (w.alloc o)) := fun o => (Below.refl _ _).alloc (Nat.le_refl _) o
  go_enter Try.func59, Try.ntmps59
  go_wp2_with fail
  refine bodyPost_ret (v := .agg #[.int .i64 0, .int .i64 0, .int .i64 0, .nilFunc]) (by simp [results, Try.results59, go_sem]; try rfl) rfl ⟨rfl, ?_⟩
  repeat (first | exact HB.out _ | refine Below.setCell ?_ (Nat.le_refl _) _)

set_option maxRecDepth 100000 in
set_option maxHeartbeats 1000000 in
theorem cshape_3 (w : World) : Calls Try.prog 59 #[.int .i64 3] w fun e w' => e = .returned (.agg #[.int .i64 2, .int .i64 0, .int .i64 0, .nilFunc]) ∧ Below w.heap.size w w' := by
  have HB : Hid (∀ o, Below w.heap.size w (w.alloc o)) := fun o => (Below.refl _ _).alloc (Nat.le_refl _) o
  go_enter Try.func59, Try.ntmps59
  go_wp2_with fail
  refine bodyPost_ret (v := .agg #[.int .i64 2, .int .i64 0, .int .i64 0, .nilFunc]) (by simp [results, Try.results59, go_sem]; try rfl) rfl ⟨rfl, ?_⟩
  repeat (first | exact HB.out _ | refine Below.setCell ?_ (Nat.le_refl _) _)

set_option maxRecDepth 100000 in
set_option maxHeartbeats 1000000 in
theorem cshape_4 (w : World) : Calls Try.prog 59 #[.int .i64 4] w fun e w' => e = .returned (.agg #[.int .i64 2, .int .i64 0, .int .i64 0, .nilFunc]) ∧ Below w.heap.size w w' := by
  have HB : Hid (∀ o, Below w.heap.size w (w.alloc o)) := fun o => (Below.refl _ _).alloc (Nat.le_refl _) o
  go_enter Try.func59, Try.ntmps59
  go_wp2_with fail
  refine bodyPost_ret (v := .agg #[.int .i64 2, .int .i64 0, .int .i64 0, .nilFunc]) (by simp [results, Try.results59, go_sem]; try rfl) rfl ⟨rfl, ?_⟩
  repeat (first | exact HB.out _ | refine Below.setCell ?_ (Nat.le_refl _) _)

set_option maxRecDepth 100000 in
set_option maxHeartbeats 1000000 in
theorem cshape_5 (w : World) : Calls Try.prog 59 #[.int .i64 5] w fun e w' => e = .returned (.agg #[.int .i64 2, .int .i64 0, .int .i64 0, .nilFunc]) ∧ Below w.heap.size w w' := by
  have HB : Hid (∀ o, Below w.heap.size w (w.alloc o)) := fun o => (Below.refl _ _).alloc (Nat.le_refl _) o
  go_enter Try.func59, Try.ntmps59
  go_wp2_with fail
  refine bodyPost_ret (v := .agg #[.int .i64 2, .int .i64 0, .int .i64 0, .nilFunc]) (by simp [results, Try.results59, go_sem]; try rfl) rfl ⟨rfl, ?_⟩
  repeat (first | exact HB.out _ | refine Below.setCell ?_ (Nat.le_refl _) _)

set_option maxRecDepth 100000 in
set_option maxHeartbeats 1000000 in
theorem cshape_6 (w : World) : Calls Try.prog 59 #[.int .i64 6] w fun e w' => e = .returned (.agg #[.int .i64 2, .int .i64 1, .int .i64 11, .nilFunc]) ∧ Below w.heap.size w w' := by
  have HB : Hid (∀ o, Below w.heap.size w (w.alloc o)) := fun o => (Below.refl _ _).alloc (Nat.le_refl _) o
  go_enter Try.func59, Try.ntmps59
  go_wp2_with fail
  refine bodyPost_ret (v := .agg #[.int .i64 2, .int .i64 1, .int .i64 11, .nilFunc]) (by simp [results, Try.results59, go_sem]; try rfl) rfl ⟨rfl, ?_⟩
  repeat (first | exact HB.out _ | refine Below.setCell ?_ (Nat.le_refl _) _)

set_option maxRecDepth 100000 in
set_option maxHeartbeats 1000000 in
theorem cshape_7 (w : World) : Calls Try.prog 59 #[.int .i64 7] w fun e w' => e = .returned (.agg #[.int .i64 2, .int .i64 0, .int .i64 0, .nilFunc]) ∧ Below w.heap.size w w' := by
  have HB : Hid (∀ o, Below w.heap.size w (w.alloc o)) := fun o => (Below.refl _ _).alloc (Nat.le_refl _) o
  go_enter Try.func59, Try.ntmps59
  go_wp2_with fail
  refine bodyPost_ret (v := .agg #[.int .i64 2, .int .i64 0, .int .i64 0, .nilFunc]) (by simp [results, Try.results59, go_sem]; try rfl) rfl ⟨rfl, ?_⟩
  repeat (first | exact HB.out _ | refine Below.setCell ?_ (Nat.le_refl _) _)

set_option maxRecDepth 100000 in
set_option maxHeartbeats 1000000 in
theorem cshape_8 (w : World) : Calls Try.prog 59 #[.int .i64 8] w fun e w' => e = .returned (.agg #[.int .i64 1, .int .i64 0, .int .i64 0, .nilFunc]) ∧ Below w.heap.size w w' := by
  have HB : Hid (∀ o, Below w.heap.size w (w.alloc o)) := fun o => (Below.refl _ _).alloc (Nat.le_refl _) o
  go_enter Try.func59, Try.ntmps59
  go_wp2_with fail
  refine bodyPost_ret (v := .agg #[.int .i64 1, .int .i64 0, .int .i64 0, .nilFunc]) (by simp [results, Try.results59, go_sem]; try rfl) rfl ⟨rfl, ?_⟩
  repeat (first | exact HB.out _ | refine Below.setCell ?_ (Nat.le_refl _) _)

set_option maxRecDepth 100000 in
set_option maxHeartbeats 1000000 in
theorem cshape_9 (w : World) : Calls Try.prog 59 #[.int .i64 9] w fun e w' => e = .returned (.agg #[.int .i64 1, .int .i64 0, .int .i64 0, .nilFunc]) ∧ Below w.heap.size w w' := by
  have HB : Hid (∀ o, Below w.heap.size w (w.alloc o)) := fun o => (Below.refl _ _).alloc (Nat.le_refl _) o
  go_enter Try.func59, Try.ntmps59
  go_wp2_with fail
  refine bodyPost_ret (v := .agg #[.int .i64 1, .int .i64 0, .int .i64 0, .nilFunc]) (by simp [results, Try.results59, go_sem]; try rfl) rfl ⟨rfl, ?_⟩
  repeat (first | exact HB.out _ | refine Below.setCell ?_ (Nat.le_refl _) _)

set_option maxRecDepth 100000 in
set_option maxHeartbeats 1000000 in
theorem cshape_10 (w : World) : Calls Try.prog 59 #[.int .i64 10] w fun e w' => e = .returned (.agg #[.int .i64 1, .int .i64 0, .int .i64 0, .nilFunc]) ∧ Below w.heap.size w w' := by
  have HB : Hid (∀ o, Below w.heap.size w (w.alloc o)) := fun o => (Below.refl _ _).alloc (Nat.le_refl _) o
  go_enter Try.func59, Try.ntmps59
  go_wp2_with fail
  refine bodyPost_ret (v := .agg #[.int .i64 1, .int .i64 0, .int .i64 0, .nilFunc]) (by simp [results, Try.results59, go_sem]; try rfl) rfl ⟨rfl, ?_⟩
  repeat (first | exact HB.out _ | refine Below.setCell ?_ (Nat.le_refl _) _)

set_option maxRecDepth 100000 in
set_option maxHeartbeats 1000000 in
theorem cshape_11 (w : World) : Calls Try.prog 59 #[.int .i64 11] w fun e w' => e = .returned (.agg #[.int .i64 2, .int .i64 0, .int .i64 0, .nilFunc]) ∧ Below w.heap.size w w' := by
  have HB : Hid (∀ o, Below w.heap.size w (w.alloc o)) := fun o => (Below.refl _ _).alloc (Nat.le_refl _) o
  go_enter Try.func59, Try.ntmps59
  go_wp2_with fail
  refine bodyPost_ret (v := .agg #[.int .i64 2, .int .i64 0, .int .i64 0, .nilFunc]) (by simp [results, Try.results59, go_sem]; try rfl) rfl ⟨rfl, ?_⟩
  repeat (first | exact HB.out _ | refine Below.setCell ?_ (Nat.le_refl _) _)

set_option maxRecDepth 100000 in
set_option maxHeartbeats 1000000 in
theorem cshape_12 (w : World) : Calls Try.prog 59 #[.int .i64 12] w fun e w' => e = .returned (.agg #[.int .i64 3, .int .i64 0, .int .i64 0, .nilFunc]) ∧ Below w.heap.size w w' := by
  have HB : Hid (∀ o, Below w.heap.size w (w.alloc o)) := fun o => (Below.refl _ _).alloc (Nat.le_refl _) o
  go_enter Try.func59, Try.ntmps59
  go_wp2_with fail
  refine bodyPost_ret (v := .agg #[.int .i64 3, .int .i64 0, .int .i64 0, .nilFunc]) (by simp [results, Try.results59, go_sem]; try rfl) rfl ⟨rfl, ?_⟩
  repeat (first | exact HB.out _ | refine Below.setCell ?_ (Nat.le_refl _) _)

set_option maxRecDepth 100000 in
set_option maxHeartbeats 1000000 in
theorem cshape_13 (w : World) : Calls Try.prog 59 #[.int .i64 13] w fun e w' => e = .returned (.agg #[.int .i64 3, .int .i64 0, .int .i64 59, .nilFunc]) ∧ Below w.heap.size w w' := by
  have HB : Hid (∀ o, Below w.heap.size w (w.alloc o)) := fun o => (Below.refl _ _).alloc (Nat.le_refl _) o
  go_enter Try.func59, Try.ntmps59
  go_wp2_with fail
  refine bodyPost_ret (v := .agg #[.int .i64 3, .int .i64 0, .int .i64 59, .nilFunc]) (by simp [results, Try.results59, go_sem]; try rfl) rfl ⟨rfl, ?_⟩
  repeat (first | exact HB.out _ | refine Below.setCell ?_ (Nat.le_refl _) _)

set_option maxRecDepth 100000 in
set_option maxHeartbeats 1000000 in
theorem cshape_14 (w : World) : Calls Try.prog 59 #[.int .i64 14] w fun e w' => e = .returned (.agg #[.int .i64 2, .int .i64 0, .int .i64 59, .nilFunc]) ∧ Below w.heap.size w w' := by
  have HB : Hid (∀ o, Below w.heap.size w (w.alloc o)) := fun o => (Below.refl _ _).alloc (Nat.le_refl _) o
  go_enter Try.func59, Try.ntmps59
  go_wp2_with fail
  refine bodyPost_ret (v := .agg #[.int .i64 2, .int .i64 0, .int .i64 59, .nilFunc]) (by simp [results, Try.results59, go_sem]; try rfl) rfl ⟨rfl, ?_⟩
  repeat (first | exact HB.out _ | refine Below.setCell ?_ (Nat.le_refl _) _)

set_option maxRecDepth 100000 in
set_option maxHeartbeats 1000000 in
theorem cshape_15 (w : World) : Calls Try.prog 59 #[.int .i64 15] w fun e w' => e = .returned (.agg #[.int .i64 0, .int .i64 0, .int .i64 59, .nilFunc]) ∧ Below w.heap.size w w' := by
  have HB : Hid (∀ o, Below w.heap.size w (w.alloc o)) := fun o => (Below.refl _ _).alloc (Nat.le_refl _) o
  go_enter Try.func59, Try.ntmps59
  go_wp2_with fail
  refine bodyPost_ret (v := .agg #[.int .i64 0, .int .i64 0, .int .i64 59, .nilFunc]) (by simp [results, Try.results59, go_sem]; try rfl) rfl ⟨rfl, ?_⟩
  repeat (first | exact HB.out _ | refine Below.setCell ?_ (Nat.le_refl _) _)

set_option maxRecDepth 100000 in
set_option maxHeartbeats 1000000 in
theorem cshape_16 (w : World) : Calls Try.prog 59 #[.int .i64 16] w fun e w' => e = .returned (.agg #[.int .i64 0, .int .i64 1, .int .i64 8, .nilFunc]) ∧ Below w.heap.size w w' := by
  have HB : Hid (∀ o, Below w.heap.size w (w.alloc o)) := fun o => (Below.refl _ _).alloc (Nat.le_refl _) o
  go_enter Try.func59, Try.ntmps59
  go_wp2_with fail
  refine bodyPost_ret (v := .agg #[.int .i64 0, .int .i64 1, .int .i64 8, .nilFunc]) (by simp [results, Try.results59, go_sem]; try rfl) rfl ⟨rfl, ?_⟩
  repeat (first | exact HB.out _ | refine Below.setCell ?_ (Nat.le_refl _) _)

set_option maxRecDepth 100000 in
set_option maxHeartbeats 1000000 in
theorem cshape_17 (w : World) : Calls Try.prog 59 #[.int .i64 17] w fun e w' => e = .returned (.agg #[.int .i64 0, .int .i64 0, .int .i64 0, .nilFunc]) ∧ Below w.heap.size w w' := by
  have HB : Hid (∀ o, Below w.heap.size w (w.alloc o)) := fun o => (Below.refl _ _).alloc (Nat.le_refl _) o
  go_enter Try.func59, Try.ntmps59
  go_wp2_with fail
  refine bodyPost_ret (v := .agg #[.int .i64 0, .int .i64 0, .int .i64 0, .nilFunc]) (by simp [results, Try.results59, go_sem]; try rfl) rfl ⟨rfl, ?_⟩
  repeat (first | exact HB.out _ | refine Below.setCell ?_ (Nat.le_refl _) _)

theorem coreShape_any (op : Int) (w : World) (h1 : 1 ≤ op) (h2 : op ≤ 17) : Calls Try.prog 59 #[.int .i64 op] w fun e w' => e = .returned (coreV op) ∧ Below w.heap.size w w' := by
  have h : op = 1 ∨ op = 2 ∨ op = 3 ∨ op = 4 ∨ op = 5 ∨ op = 6 ∨ op = 7 ∨ op = 8 ∨ op = 9 ∨ op = 10 ∨ op = 11 ∨ op = 12 ∨ op = 13 ∨ op = 14 ∨ op = 15 ∨ op = 16 ∨ op = 17 := by omega
  rcases h with rfl | rfl | rfl | rfl | rfl | rfl | rfl | rfl | rfl | rfl | rfl | rfl | rfl | rfl | rfl | rfl | rfl
  · exact cshape_1 w
  · exact cshape_2 w
  · exact cshape_3 w
  · exact cshape_4 w
  · exact cshape_5 w
  · exact cshape_6 w
  · exact cshape_7 w
  · exact cshape_8 w
  · exact cshape_9 w
  · exact cshape_10 w
  · exact cshape_11 w
  · exact cshape_12 w
  · exact cshape_13 w
  · exact cshape_14 w
  · exact cshape_15 w
  · exact cshape_16 w
  · exact cshape_17 w

set_option maxRecDepth 100000 in
set_option maxHeartbeats 1000000 in
theorem l6Kids_1 (w : World) : Calls Try.prog 35 #[.int .i64 1] w fun e w' => e = .returned (.int .i64 0) ∧ w' = w := by
  go_enter Try.func35, Try.ntmps35
  go_wp2_with fail
  go_ret
  exact ⟨rfl, rfl⟩

set_option maxRecDepth 100000 in
set_option maxHeartbeats 1000000 in
theorem l6Kids_2 (w : World) : Calls Try.prog 35 #[.int .i64 2] w fun e w' => e = .returned (.int .i64 0) ∧ w' = w := by
  go_enter Try.func35, Try.ntmps35
  go_wp2_with fail
  go_ret
  exact ⟨rfl, rfl⟩

set_option maxRecDepth 100000 in
set_option maxHeartbeats 1000000 in
theorem l6Kids_3 (w : World) : Calls Try.prog 35 #[.int .i64 3] w fun e w' => e = .returned (.int .i64 2) ∧ w' = w := by
  go_enter Try.func35, Try.ntmps35
  go_wp2_with fail
  go_ret
  exact ⟨rfl, rfl⟩

set_option maxRecDepth 100000 in
set_option maxHeartbeats 1000000 in
theorem l6Kids_4 (w : World) : Calls Try.prog 35 #[.int .i64 4] w fun e w' => e = .returned (.int .i64 2) ∧ w' = w := by
  go_enter Try.func35, Try.ntmps35
  go_wp2_with fail
  go_ret
  exact ⟨rfl, rfl⟩

set_option maxRecDepth 100000 in
set_option maxHeartbeats 1000000 in
theorem l6Kids_5 (w : World) : Calls Try.prog 35 #[.int .i64 5] w fun e w' => e = .returned (.int .i64 2) ∧ w' = w := by
  go_enter Try.func35, Try.ntmps35
  go_wp2_with fail
  go_ret
  exact ⟨rfl, rfl⟩

set_option maxRecDepth 100000 in
set_option maxHeartbeats 1000000 in
theorem l6Kids_6 (w : World) : Calls Try.prog 35 #[.int .i64 6] w fun e w' => e = .returned (.int .i64 2) ∧ w' = w := by
  go_enter Try.func35, Try.ntmps35
  go_wp2_with fail
  go_ret
  exact ⟨rfl, rfl⟩

set_option maxRecDepth 100000 in
set_option maxHeartbeats 1000000 in
theorem l6Kids_7 (w : World) : Calls Try.prog 35 #[.int .i64 7] w fun e w' => e = .returned (.int .i64 2) ∧ w' = w := by
  go_enter Try.func35, Try.ntmps35
  go_wp2_with fail
  go_ret
  exact ⟨rfl, rfl⟩

set_option maxRecDepth 100000 in
set_option maxHeartbeats 1000000 in
theorem l6Kids_8 (w : World) : Calls Try.prog 35 #[.int .i64 8] w fun e w' => e = .returned (.int .i64 1) ∧ w' = w := by
  go_enter Try.func35, Try.ntmps35
  go_wp2_with fail
  go_ret
  exact ⟨rfl, rfl⟩

set_option maxRecDepth 100000 in
set_option maxHeartbeats 1000000 in
theorem l6Kids_9 (w : World) : Calls Try.prog 35 #[.int .i64 9] w fun e w' => e = .returned (.int .i64 1) ∧ w' = w := by
  go_enter Try.func35, Try.ntmps35
  go_wp2_with fail
  go_ret
  exact ⟨rfl, rfl⟩

set_option maxRecDepth 100000 in
set_option maxHeartbeats 1000000 in
theorem l6Kids_10 (w : World) : Calls Try.prog 35 #[.int .i64 10] w fun e w' => e = .returned (.int .i64 1) ∧ w' = w := by
  go_enter Try.func35, Try.ntmps35
  go_wp2_with fail
  go_ret
  exact ⟨rfl, rfl⟩

set_option maxRecDepth 100000 in
set_option maxHeartbeats 1000000 in
theorem l6Kids_11 (w : World) : Calls Try.prog 35 #[.int .i64 11] w fun e w' => e = .returned (.int .i64 2) ∧ w' = w := by
  go_enter Try.func35, Try.ntmps35
  go_wp2_with fail
  go_ret
  exact ⟨rfl, rfl⟩

set_option maxRecDepth 100000 in
set_option maxHeartbeats 1000000 in
theorem l6Kids_12 (w : World) : Calls Try.prog 35 #[.int .i64 12] w fun e w' => e = .returned (.int .i64 3) ∧ w' = w := by
  go_enter Try.func35, Try.ntmps35
  go_wp2_with fail
  go_ret
  exact ⟨rfl, rfl⟩

set_option maxRecDepth 100000 in
set_option maxHeartbeats 1000000 in
theorem l6Kids_13 (w : World) : Calls Try.prog 35 #[.int .i64 13] w fun e w' => e = .returned (.int .i64 3) ∧ w' = w := by
  go_enter Try.func35, Try.ntmps35
  go_wp2_with fail
  go_ret
  exact ⟨rfl, rfl⟩

set_option maxRecDepth 100000 in
set_option maxHeartbeats 1000000 in
theorem l6Kids_14 (w : World) : Calls Try.prog 35 #[.int .i64 14] w fun e w' => e = .returned (.int .i64 2) ∧ w' = w := by
  go_enter Try.func35, Try.ntmps35
  go_wp2_with fail
  go_ret
  exact ⟨rfl, rfl⟩

set_option maxRecDepth 100000 in
set_option maxHeartbeats 1000000 in
theorem l6Kids_15 (w : World) : Calls Try.prog 35 #[.int .i64 15] w fun e w' => e = .returned (.int .i64 0) ∧ w' = w := by
  go_enter Try.func35, Try.ntmps35
  go_wp2_with fail
  go_ret
  exact ⟨rfl, rfl⟩

set_option maxRecDepth 100000 in
set_option maxHeartbeats 1000000 in
theorem l6Kids_16 (w : World) : Calls Try.prog 35 #[.int .i64 16] w fun e w' => e = .returned (.int .i64 0) ∧ w' = w := by
  go_enter Try.func35, Try.ntmps35
  go_wp2_with fail
  go_ret
  exact ⟨rfl, rfl⟩

set_option maxRecDepth 100000 in
set_option maxHeartbeats 1000000 in
theorem l6Kids_17 (w : World) : Calls Try.prog 35 #[.int .i64 17] w fun e w' => e = .returned (.int .i64 0) ∧ w' = w := by
  go_enter Try.func35, Try.ntmps35
  go_wp2_with fail
  go_ret
  exact ⟨rfl, rfl⟩

theorem l6Kids_any (op : Int) (w : World) (h1 : 1 ≤ op) (h2 : op ≤ 17) : Calls Try.prog 35 #[.int .i64 op] w fun e w' => e = .returned (.int .i64 (Co.kids op)) ∧ w' = w := by
  have h : op = 1 ∨ op = 2 ∨ op = 3 ∨ op = 4 ∨ op = 5 ∨ op = 6 ∨ op = 7 ∨ op = 8 ∨ op = 9 ∨ op = 10 ∨ op = 11 ∨ op = 12 ∨ op = 13 ∨ op = 14 ∨ op = 15 ∨ op = 16 ∨ op = 17 := by omega
  rcases h with rfl | rfl | rfl | rfl | rfl | rfl | rfl | rfl | rfl | rfl | rfl | rfl | rfl | rfl | rfl | rfl | rfl
  · exact l6Kids_1 w
  · exact l6Kids_2 w
  · exact l6Kids_3 w
  · exact l6Kids_4 w
  · exact l6Kids_5 w
  · exact l6Kids_6 w
  · exact l6Kids_7 w
  · exact l6Kids_8 w
  · exact l6Kids_9 w
  · exact l6Kids_10 w
  · exact l6Kids_11 w
  · exact l6Kids_12 w
  · exact l6Kids_13 w
  · exact l6Kids_14 w
  · exact l6Kids_15 w
  · exact l6Kids_16 w
  · exact l6Kids_17 w

set_option maxRecDepth 100000 in
set_option maxHeartbeats 1000000 in
theorem l6Nums_1 (w : World) : Calls Try.prog 55 #[.int .i64 1] w fun e w' => e = .returned (.tuple #[.int .i64 0, .int .i64 0]) ∧ w' = w := by
  go_enter Try.func55, Try.ntmps55
  go_wp2_with fail
  refine bodyPost_ret (v := .tuple #[.int .i64 0, .int .i64 0]) (by simp [results, Try.results55, go_sem]; try rfl) rfl ⟨rfl, rfl⟩

set_option maxRecDepth 100000 in
set_option maxHeartbeats 1000000 in
theorem l6Nums_2 (w : World) : Calls Try.prog 55 #[.int .i64 2] w fun e w' => e = .returned (.tuple #[.int .i64 0, .int .i64 0]) ∧ w' = w := by
  go_enter Try.func55, Try.ntmps55
  go_wp2_with fail
  refine bodyPost_ret (v := .tuple #[.int .i64 0, .int .i64 0]) (by simp [results, Try.results55, go_sem]; try rfl) rfl ⟨rfl, rfl⟩

set_option maxRecDepth 100000 in
set_option maxHeartbeats 1000000 in
theorem l6Nums_3 (w : World) : Calls Try.prog 55 #[.int .i64 3] w fun e w' => e = .returned (.tuple #[.int .i64 0, .int .i64 0]) ∧ w' = w := by
  go_enter Try.func55, Try.ntmps55
  go_wp2_with fail
  refine bodyPost_ret (v := .tuple #[.int .i64 0, .int .i64 0]) (by simp [results, Try.results55, go_sem]; try rfl) rfl ⟨rfl, rfl⟩

set_option maxRecDepth 100000 in
set_option maxHeartbeats 1000000 in
theorem l6Nums_4 (w : World) : Calls Try.prog 55 #[.int .i64 4] w fun e w' => e = .returned (.tuple #[.int .i64 0, .int .i64 0]) ∧ w' = w := by
  go_enter Try.func55, Try.ntmps55
  go_wp2_with fail
  refine bodyPost_ret (v := .tuple #[.int .i64 0, .int .i64 0]) (by simp [results, Try.results55, go_sem]; try rfl) rfl ⟨rfl, rfl⟩

set_option maxRecDepth 100000 in
set_option maxHeartbeats 1000000 in
theorem l6Nums_5 (w : World) : Calls Try.prog 55 #[.int .i64 5] w fun e w' => e = .returned (.tuple #[.int .i64 0, .int .i64 0]) ∧ w' = w := by
  go_enter Try.func55, Try.ntmps55
  go_wp2_with fail
  refine bodyPost_ret (v := .tuple #[.int .i64 0, .int .i64 0]) (by simp [results, Try.results55, go_sem]; try rfl) rfl ⟨rfl, rfl⟩

set_option maxRecDepth 100000 in
set_option maxHeartbeats 1000000 in
theorem l6Nums_6 (w : World) : Calls Try.prog 55 #[.int .i64 6] w fun e w' => e = .returned (.tuple #[.int .i64 1, .int .i64 11]) ∧ w' = w := by
  go_enter Try.func55, Try.ntmps55
  go_wp2_with fail
  refine bodyPost_ret (v := .tuple #[.int .i64 1, .int .i64 11]) (by simp [results, Try.results55, go_sem]; try rfl) rfl ⟨rfl, rfl⟩

set_option maxRecDepth 100000 in
set_option maxHeartbeats 1000000 in
theorem l6Nums_7 (w : World) : Calls Try.prog 55 #[.int .i64 7] w fun e w' => e = .returned (.tuple #[.int .i64 0, .int .i64 0]) ∧ w' = w := by
  go_enter Try.func55, Try.ntmps55
  go_wp2_with fail
  refine bodyPost_ret (v := .tuple #[.int .i64 0, .int .i64 0]) (by simp [results, Try.results55, go_sem]; try rfl) rfl ⟨rfl, rfl⟩

set_option maxRecDepth 100000 in
set_option maxHeartbeats 1000000 in
theorem l6Nums_8 (w : World) : Calls Try.prog 55 #[.int .i64 8] w fun e w' => e = .returned (.tuple #[.int .i64 0, .int .i64 0]) ∧ w' = w := by
  go_enter Try.func55, Try.ntmps55
  go_wp2_with fail
  refine bodyPost_ret (v := .tuple #[.int .i64 0, .int .i64 0]) (by simp [results, Try.results55, go_sem]; try rfl) rfl ⟨rfl, rfl⟩

set_option maxRecDepth 100000 in
set_option maxHeartbeats 1000000 in
theorem l6Nums_9 (w : World) : Calls Try.prog 55 #[.int .i64 9] w fun e w' => e = .returned (.tuple #[.int .i64 0, .int .i64 0]) ∧ w' = w := by
  go_enter Try.func55, Try.ntmps55
  go_wp2_with fail
  refine bodyPost_ret (v := .tuple #[.int .i64 0, .int .i64 0]) (by simp [results, Try.results55, go_sem]; try rfl) rfl ⟨rfl, rfl⟩

set_option maxRecDepth 100000 in
set_option maxHeartbeats 1000000 in
theorem l6Nums_10 (w : World) : Calls Try.prog 55 #[.int .i64 10] w fun e w' => e = .returned (.tuple #[.int .i64 0, .int .i64 0]) ∧ w' = w := by
  go_enter Try.func55, Try.ntmps55
  go_wp2_with fail
  refine bodyPost_ret (v := .tuple #[.int .i64 0, .int .i64 0]) (by simp [results, Try.results55, go_sem]; try rfl) rfl ⟨rfl, rfl⟩

set_option maxRecDepth 100000 in
set_option maxHeartbeats 1000000 in
theorem l6Nums_11 (w : World) : Calls Try.prog 55 #[.int .i64 11] w fun e w' => e = .returned (.tuple #[.int .i64 0, .int .i64 0]) ∧ w' = w := by
  go_enter Try.func55, Try.ntmps55
  go_wp2_with fail
  refine bodyPost_ret (v := .tuple #[.int .i64 0, .int .i64 0]) (by simp [results, Try.results55, go_sem]; try rfl) rfl ⟨rfl, rfl⟩

set_option maxRecDepth 100000 in
set_option maxHeartbeats 1000000 in
theorem l6Nums_12 (w : World) : Calls Try.prog 55 #[.int .i64 12] w fun e w' => e = .returned (.tuple #[.int .i64 0, .int .i64 0]) ∧ w' = w := by
  go_enter Try.func55, Try.ntmps55
  go_wp2_with fail
  refine bodyPost_ret (v := .tuple #[.int .i64 0, .int .i64 0]) (by simp [results, Try.results55, go_sem]; try rfl) rfl ⟨rfl, rfl⟩

set_option maxRecDepth 100000 in
set_option maxHeartbeats 1000000 in
theorem l6Nums_13 (w : World) : Calls Try.prog 55 #[.int .i64 13] w fun e w' => e = .returned (.tuple #[.int .i64 0, .int .i64 59]) ∧ w' = w := by
  go_enter Try.func55, Try.ntmps55
  go_wp2_with fail
  refine bodyPost_ret (v := .tuple #[.int .i64 0, .int .i64 59]) (by simp [results, Try.results55, go_sem]; try rfl) rfl ⟨rfl, rfl⟩

set_option maxRecDepth 100000 in
set_option maxHeartbeats 1000000 in
theorem l6Nums_14 (w : World) : Calls Try.prog 55 #[.int .i64 14] w fun e w' => e = .returned (.tuple #[.int .i64 0, .int .i64 59]) ∧ w' = w := by
  go_enter Try.func55, Try.ntmps55
  go_wp2_with fail
  refine bodyPost_ret (v := .tuple #[.int .i64 0, .int .i64 59]) (by simp [results, Try.results55, go_sem]; try rfl) rfl ⟨rfl, rfl⟩

set_option maxRecDepth 100000 in
set_option maxHeartbeats 1000000 in
theorem l6Nums_15 (w : World) : Calls Try.prog 55 #[.int .i64 15] w fun e w' => e = .returned (.tuple #[.int .i64 0, .int .i64 59]) ∧ w' = w := by
  go_enter Try.func55, Try.ntmps55
  go_wp2_with fail
  refine bodyPost_ret (v := .tuple #[.int .i64 0, .int .i64 59]) (by simp [results, Try.results55, go_sem]; try rfl) rfl ⟨rfl, rfl⟩

set_option maxRecDepth 100000 in
set_option maxHeartbeats 1000000 in
theorem l6Nums_16 (w : World) : Calls Try.prog 55 #[.int .i64 16] w fun e w' => e = .returned (.tuple #[.int .i64 1, .int .i64 8]) ∧ w' = w := by
  go_enter Try.func55, Try.ntmps55
  go_wp2_with fail
  refine bodyPost_ret (v := .tuple #[.int .i64 1, .int .i64 8]) (by simp [results, Try.results55, go_sem]; try rfl) rfl ⟨rfl, rfl⟩

set_option maxRecDepth 100000 in
set_option maxHeartbeats 1000000 in
theorem l6Nums_17 (w : World) : Calls Try.prog 55 #[.int .i64 17] w fun e w' => e = .returned (.tuple #[.int .i64 0, .int .i64 0]) ∧ w' = w := by
  go_enter Try.func55, Try.ntmps55
  go_wp2_with fail
  refine bodyPost_ret (v := .tuple #[.int .i64 0, .int .i64 0]) (by simp [results, Try.results55, go_sem]; try rfl) rfl ⟨rfl, rfl⟩

theorem l6Nums_any (op : Int) (w : World) (h1 : 1 ≤ op) (h2 : op ≤ 17) : Calls Try.prog 55 #[.int .i64 op] w fun e w' => e = .returned (.tuple #[.int .i64 (Co.low op), .int .i64 (Co.high op)]) ∧ w' = w := by
  have h : op = 1 ∨ op = 2 ∨ op = 3 ∨ op = 4 ∨ op = 5 ∨ op = 6 ∨ op = 7 ∨ op = 8 ∨ op = 9 ∨ op = 10 ∨ op = 11 ∨ op = 12 ∨ op = 13 ∨ op = 14 ∨ op = 15 ∨ op = 16 ∨ op = 17 := by omega
  rcases h with rfl | rfl | rfl | rfl | rfl | rfl | rfl | rfl | rfl | rfl | rfl | rfl | rfl | rfl | rfl | rfl | rfl
  · exact l6Nums_1 w
  · exact l6Nums_2 w
  · exact l6Nums_3 w
  · exact l6Nums_4 w
  · exact l6Nums_5 w
  · exact l6Nums_6 w
  · exact l6Nums_7 w
  · exact l6Nums_8 w
  · exact l6Nums_9 w
  · exact l6Nums_10 w
  · exact l6Nums_11 w
  · exact l6Nums_12 w
  · exact l6Nums_13 w
  · exact l6Nums_14 w
  · exact l6Nums_15 w
  · exact l6Nums_16 w
  · exact l6Nums_17 w

set_option maxHeartbeats 1000000 in
theorem l6HasVal_any (op : Int) (w : World) : Calls Try.prog 56 #[.int .i64 op] w fun e w' => e = .returned (.bool (Co.hasVal op)) ∧ w' = w := by
  by_cases h2 : op = 2
  · have fin := hide (show Co.hasVal op = true by unfold Co.hasVal; simp [h2])
    have g1 : (op == 2) = true := by simp [h2]
    clear h2
    go_enter Try.func56, Try.ntmps56
    go_wp2_with fail
    go_ret
    exact ⟨ret_bool (unhide fin).symm, rfl⟩
  · have g1 : (op == 2) = false := by simpa using h2
    cases h11 : (op == 11) with
    | true =>
      have fin := hide (show Co.hasVal op = true by unfold Co.hasVal; rw [g1, h11]; rfl)
      clear h2
      go_enter Try.func56, Try.ntmps56
      go_wp2_with fail
      go_ret
      exact ⟨ret_bool (unhide fin).symm, rfl⟩
    | false =>
      have fin := hide (show Co.hasVal op = false by unfold Co.hasVal; rw [g1, h11]; rfl)
      clear h2
      go_enter Try.func56, Try.ntmps56
      go_wp2_with fail
      go_ret
      exact ⟨ret_bool (unhide fin).symm, rfl⟩

set_option maxHeartbeats 1000000 in
theorem l6Kid_0 (op_ a_ b_ c_ num_ : Int) (v_ : Value) (hv : v_.oneCell' = true) (w : World) : Calls Try.prog 37 #[.agg #[.int .i64 op_, .int .i64 a_, .int .i64 b_, .int .i64 c_, .int .i64 num_, v_], .int .i64 0] w fun e w' => e = .returned (.int .i64 a_) ∧ w' = w.alloc (.cells #[.int .i64 op_, .int .i64 a_, .int .i64 b_, .int .i64 c_, .int .i64 num_, v_] 48) := by
  go_enter Try.func37, Try.ntmps37
  go_wp2_with fail
  go_ret
  exact ⟨rfl, rfl⟩

set_option maxHeartbeats 1000000 in
theorem l6Kid_1 (op_ a_ b_ c_ num_ : Int) (v_ : Value) (hv : v_.oneCell' = true) (w : World) : Calls Try.prog 37 #[.agg #[.int .i64 op_, .int .i64 a_, .int .i64 b_, .int .i64 c_, .int .i64 num_, v_], .int .i64 1] w fun e w' => e = .returned (.int .i64 b_) ∧ w' = w.alloc (.cells #[.int .i64 op_, .int .i64 a_, .int .i64 b_, .int .i64 c_, .int .i64 num_, v_] 48) := by
  go_enter Try.func37, Try.ntmps37
  go_wp2_with fail
  go_ret
  exact ⟨rfl, rfl⟩

set_option maxHeartbeats 1000000 in
theorem l6Kid_2 (op_ a_ b_ c_ num_ : Int) (v_ : Value) (hv : v_.oneCell' = true) (w : World) : Calls Try.prog 37 #[.agg #[.int .i64 op_, .int .i64 a_, .int .i64 b_, .int .i64 c_, .int .i64 num_, v_], .int .i64 2] w fun e w' => e = .returned (.int .i64 c_) ∧ w' = w.alloc (.cells #[.int .i64 op_, .int .i64 a_, .int .i64 b_, .int .i64 c_, .int .i64 num_, v_] 48) := by
  go_enter Try.func37, Try.ntmps37
  go_wp2_with fail
  go_ret
  exact ⟨rfl, rfl⟩

end Go.Proofs.Ytkjmnkbiflkpdaa

namespace Go.Proofs.Ytkjmnkbiflkpdaa
open Go.RowKit
set_option linter.unusedVariables false
set_option linter.unusedSimpArgs false


theorem valF_no {c : Co} (h : Co.hasVal c.op = false) : Co.valF c = if 0 < c.val.length then 1 else 0 := by unfold Co.valF; rw [if_neg (by rw [h]; decide)]
theorem valF_bad {c : Co} (h : Co.hasVal c.op = true) (h1 : M.valueFault c.val ≠ 0) : Co.valF c = M.valueFault c.val := by unfold Co.valF; rw [if_pos h, if_pos h1]
theorem valF_kind {c : Co} (h : Co.hasVal c.op = true) (h1 : M.valueFault c.val = 0) (h2 : c.op = 11) (h3 : (c.val.getD 0 M.zero).kind ≠ 4) : Co.valF c = 6 := by unfold Co.valF; rw [if_pos h, if_neg (fun h => h h1), if_pos ⟨h2, h3⟩]
theorem valF_ok {c : Co} (h : Co.hasVal c.op = true) (h1 : M.valueFault c.val = 0) (h2 : ¬ (c.op = 11 ∧ (c.val.getD 0 M.zero).kind ≠ 4)) : Co.valF c = 0 := by unfold Co.valF; rw [if_pos h, if_neg (fun h => h h1), if_neg h2]

set_option maxRecDepth 100000 in
set_option maxHeartbeats 2000000 in
theorem valFault_any (c : Co) (g : Nat) (w : World) (hr : Row w g 0 c.val) (hg : g < w.heap.size) (hn : c.val.length ≤ 1048576) (hok : ∀ x ∈ c.val, x.ok) :
    Calls Try.prog 61 #[.agg #[.int .i64 c.op, .int .i64 c.a, .int .i64 c.b, .int .i64 c.c, .int .i64 c.num, .slice (some ⟨g, 0, none⟩) c.val.length c.val.length]] w fun e w' => e = .returned (.int .i64 (Co.valF c)) ∧ Below w.heap.size w w' := by
  have HR := hide hr
  have OK := hide hok
  obtain ⟨w1, hw1⟩ : ∃ w1, w1 = w.alloc (.cells #[.int .i64 c.op, .int .i64 c.a, .int .i64 c.b, .int .i64 c.c, .int .i64 c.num, .slice (some ⟨g, 0, none⟩) c.val.length c.val.length] 48) := ⟨_, rfl⟩
  have B1 : Below w.heap.size w w1 := by rw [hw1]; exact (Below.refl _ _).alloc (Nat.le_refl _) _
  have N1 : Own w1 w.heap.size 48 [.int .i64 c.op, .int .i64 c.a, .int .i64 c.b, .int .i64 c.c, .int .i64 c.num, .slice (some ⟨g, 0, none⟩) c.val.length c.val.length] := by rw [hw1]; exact ⟨_, heap_alloc_new _ _, rfl⟩
  clear hr hok
  cases hh : Co.hasVal c.op with
  | false =>
    have h2 : c.op ≠ 2 ∧ c.op ≠ 11 := by unfold Co.hasVal at hh; simpa using hh
    have g1 : (c.op != 2) = true := by simpa using h2.1
    have g2 : (c.op != 11) = true := by simpa using h2.2
    have fin0 := hide (valF_no hh)
    clear hh h2
    by_cases hl : 0 < c.val.length
    · have fin := hide ((unhide fin0).trans (if_pos hl))
      have g3 : (c.val.length : Int) > 0 := by omega
      go_enter Try.func61, Try.ntmps61
      go_wp2_with fail
      rw [← hw1]
      go_ret
      exact ⟨ret_int (unhide fin).symm, B1⟩
    · have fin := hide ((unhide fin0).trans (if_neg hl))
      have g3 : ¬ (c.val.length : Int) > 0 := by omega
      go_enter Try.func61, Try.ntmps61
      go_wp2_with fail
      rw [← hw1]
      go_ret
      exact ⟨ret_int (unhide fin).symm, B1⟩
  | true =>
  have h2 : c.op = 2 ∨ c.op = 11 := by unfold Co.hasVal at hh; simpa using hh
  have HH := hide hh
  clear hh
  have HV := hide (implFault_any c.val g 0 c.val.length w1 ((unhide HR).below B1 hg) (Nat.lt_of_lt_of_le hg B1.size) hn (Nat.le_refl _) (unhide OK))
  rcases h2 with h2 | h2
  · have g1 : (c.op != 2) = false := by simp [h2]
    have g2 : (c.op != 11) = true := by simp [h2]
    have g3 : (c.op == 11) = false := by simp [h2]
    have H2 := hide h2
    clear h2
    go_enter Try.func61, Try.ntmps61
    go_wp2_with fail
    rw [← hw1]
    refine (unhide HV).mono ?_
    rintro e w2 ⟨rfl, hb2⟩
    have B2 : Below w.heap.size w w2 := B1.trans (hb2.mono B1.size)
    have N2 := N1.below hb2 N1.lt
    have R2 := (unhide HR).below B2 hg
    clear hw1 HV hb2 N1
    by_cases hf : M.valueFault c.val = 0
    · rw [hf]
      have hl1 := (M.fault_zero hf).1
      have HF := hide hf
      have c0 := N2.cell 0
      have c1 := N2.cell 1
      have c2 := N2.cell 2
      have c3 := N2.cell 3
      have c4 := N2.cell 4
      have c5 := N2.cell 5
      simp only [List.getElem?_cons_zero, List.getElem?_cons_succ] at c0 c1 c2 c3 c4 c5
      have fin := hide (valF_ok (unhide HH) (unhide HF) (fun h => by rw [unhide H2] at h; exact absurd h.1 (by decide)))
      clear hf R2
      go_wp2_with fail
      go_ret
      exact ⟨ret_int (unhide fin).symm, B2⟩
    · have fin := hide (valF_bad (unhide HH) hf)
      generalize M.valueFault c.val = q at *
      have g5 : (q != 0) = true := by simpa using hf
      clear R2
      go_wp2_with fail
      go_ret
      exact ⟨ret_int (unhide fin).symm, B2⟩
  · have g1 : (c.op != 2) = true := by simp [h2]
    have g2 : (c.op != 11) = false := by simp [h2]
    have g3 : (c.op == 11) = true := by simp [h2]
    have H2 := hide h2
    clear h2
    go_enter Try.func61, Try.ntmps61
    go_wp2_with fail
    rw [← hw1]
    refine (unhide HV).mono ?_
    rintro e w2 ⟨rfl, hb2⟩
    have B2 : Below w.heap.size w w2 := B1.trans (hb2.mono B1.size)
    have N2 := N1.below hb2 N1.lt
    have R2 := (unhide HR).below B2 hg
    clear hw1 HV hb2 N1
    by_cases hf : M.valueFault c.val = 0
    · rw [hf]
      have hl1 := (M.fault_zero hf).1
      have HF := hide hf
      have c0 := N2.cell 0
      have c1 := N2.cell 1
      have c2 := N2.cell 2
      have c3 := N2.cell 3
      have c4 := N2.cell 4
      have c5 := N2.cell 5
      simp only [List.getElem?_cons_zero, List.getElem?_cons_succ] at c0 c1 c2 c3 c4 c5
      obtain ⟨f0, _, _, _, _⟩ := R2 0 (by omega)
      simp only [Nat.zero_mul, Nat.add_zero] at f0
      have hlI : (0 : Int) < (c.val.length : Int) := by omega
      by_cases h4 : (c.val.getD 0 M.zero).kind = 4
      · have fin := hide (valF_ok (unhide HH) (unhide HF) (fun h => h.2 h4))
        rw [h4] at f0
        clear hf R2 h4
        go_wp2_with fail
        go_ret
        exact ⟨ret_int (unhide fin).symm, B2⟩
      · have fin := hide (valF_kind (unhide HH) (unhide HF) (unhide H2) h4)
        have g4 : ((c.val.getD 0 M.zero).kind != 4) = true := by simpa using h4
        generalize (c.val.getD 0 M.zero).kind = kk at *
        clear hf R2 h4
        go_wp2_with fail
        go_ret
        exact ⟨ret_int (unhide fin).symm, B2⟩
    · have fin := hide (valF_bad (unhide HH) hf)
      generalize M.valueFault c.val = q at *
      have g5 : (q != 0) = true := by simpa using hf
      clear R2
      go_wp2_with fail
      go_ret
      exact ⟨ret_int (unhide fin).symm, B2⟩

set_option maxRecDepth 100000 in
set_option maxHeartbeats 4000000 in
theorem coreNodeFault_any (l : List Co) (i : Nat) (n : Co) (g : Nat) (w : World) (hn : n = l.getD i Co.zero) (hr : Row w g 0 n.val) (hg : g < w.heap.size) (hlen : n.val.length ≤ 1048576) (hok : ∀ x ∈ n.val, x.ok) (hi : i ≤ 1000) :
    Calls Try.prog 45 #[.agg #[.int .i64 n.op, .int .i64 n.a, .int .i64 n.b, .int .i64 n.c, .int .i64 n.num, .slice (some ⟨g, 0, none⟩) n.val.length n.val.length], .int .i64 i] w fun e w' => e = .returned (.int .i64 (Co.nodeF l i)) ∧ Below w.heap.size w w' := by
  have HN := hide hn
  have HR := hide hr
  have OK := hide hok
  clear hn hr hok
  obtain ⟨w1, hw1⟩ : ∃ w1, w1 = w.alloc (.cells #[.int .i64 n.op, .int .i64 n.a, .int .i64 n.b, .int .i64 n.c, .int .i64 n.num, .slice (some ⟨g, 0, none⟩) n.val.length n.val.length] 48) := ⟨_, rfl⟩
  have B1 : Below w.heap.size w w1 := by rw [hw1]; exact (Below.refl _ _).alloc (Nat.le_refl _) _
  have N1 : Own w1 w.heap.size 48 [.int .i64 n.op, .int .i64 n.a, .int .i64 n.b, .int .i64 n.c, .int .i64 n.num, .slice (some ⟨g, 0, none⟩) n.val.length n.val.length] := by rw [hw1]; exact ⟨_, heap_alloc_new _ _, rfl⟩
  by_cases hop : n.op < 1 ∨ 17 < n.op
  · have fin := hide (Co.node_6 (unhide HN) hop)
    by_cases h1 : n.op < 1
    · have d1 : decide (n.op < 1) = true := decide_eq_true h1
      clear hop h1
      go_enter Try.func45, Try.ntmps45
      go_wp2_with fail
      rw [← hw1]
      go_ret
      exact ⟨ret_int (unhide fin).symm, B1⟩
    · have d1 : decide (n.op < 1) = false := decide_eq_false h1
      have d2 : decide (n.op > 17) = true := decide_eq_true (by omega)
      clear hop h1
      go_enter Try.func45, Try.ntmps45
      go_wp2_with fail
      rw [← hw1]
      go_ret
      exact ⟨ret_int (unhide fin).symm, B1⟩
  have d1 : decide (n.op < 1) = false := decide_eq_false (by omega)
  have d2 : decide (n.op > 17) = false := decide_eq_false (by omega)
  have HOP := hide hop
  have HS := hide (fun wq => coreShape_any n.op wq (by omega) (by omega))
  have HL : Hid (∀ wq, Calls Try.prog 60 #[.agg #[.int .i64 (Co.kids n.op), .int .i64 (Co.low n.op), .int .i64 (Co.high n.op), .nilFunc], .agg #[.int .i64 n.a, .int .i64 n.b, .int .i64 n.c], .int .i64 i] wq fun e w' => e = .returned (.bool (Tr.linksOk (Co.kids n.op) n.a n.b n.c i)) ∧ Below wq.heap.size wq w') := fun wq => linksFit_any ⟨0, n.a, n.b, n.c, 0, ByteArray.empty⟩ i (Co.kids n.op) (Co.kids_le _) (Co.low n.op) (Co.high n.op) .nilFunc rfl wq
  have HV := hide (fun wq (hrq : Row wq g 0 n.val) hgq => valFault_any n g wq hrq hgq hlen (unhide OK))
  clear hop
  go_enter Try.func45, Try.ntmps45
  go_wp2_with fail
  rw [← hw1]
  refine ((unhide HS) _).mono ?_
  rintro e w2 ⟨rfl, hb2⟩
  clear hw1 HS
  have N2 := N1.below hb2 N1.lt
  have B2 : Below w.heap.size w w2 := B1.trans (hb2.mono B1.size)
  have hne : w2.heap.size ≠ w.heap.size := by have := N2.lt; omega
  have hne2 : w.heap.size ≠ w2.heap.size := by have := N2.lt; omega
  unfold coreV
  clear hb2 N1
  obtain ⟨w3, hw3⟩ : ∃ w3, w3 = w2.alloc (.cells #[.int .i64 (Co.kids n.op), .int .i64 (Co.low n.op), .int .i64 (Co.high n.op), .nilFunc] 93) := ⟨_, rfl⟩
  have B3 : Below w.heap.size w w3 := by rw [hw3]; exact B2.alloc (by have := N2.lt; omega) _
  have N3 : Own w3 w.heap.size 48 [.int .i64 n.op, .int .i64 n.a, .int .i64 n.b, .int .i64 n.c, .int .i64 n.num, .slice (some ⟨g, 0, none⟩) n.val.length n.val.length] := by rw [hw3]; exact N2.below ((Below.refl _ _).alloc (Nat.le_refl _) _) N2.lt
  have S3 : Own w3 w2.heap.size 93 [.int .i64 (Co.kids n.op), .int .i64 (Co.low n.op), .int .i64 (Co.high n.op), .nilFunc] := by rw [hw3]; exact ⟨_, heap_alloc_new _ _, rfl⟩
  have c0 := N3.cell 0
  have c1 := N3.cell 1
  have c2 := N3.cell 2
  have c3 := N3.cell 3
  have c4 := N3.cell 4
  have c5 := N3.cell 5
  simp only [List.getElem?_cons_zero, List.getElem?_cons_succ] at c0 c1 c2 c3 c4 c5
  rw [hw3] at c0 c1 c2 c3 c4 c5
  clear N2 B1 B2
  go_wp2_with fail
  refine ((unhide HL) _).mono ?_
  rintro e w5 ⟨rfl, hb5⟩
  rw [← hw3] at hb5
  have B5 : Below w.heap.size w w5 := B3.trans (hb5.mono B3.size)
  have N5 := N3.below hb5 N3.lt
  have S5 := S3.below hb5 S3.lt
  have HV5 := hide ((unhide HV) w5 ((unhide HR).below B5 hg) (Nat.lt_of_lt_of_le hg B5.size))
  clear hw3 HL c0 c1 c2 c3 c4 c5 N3 S3 B3 hb5 HR HV
  have c0 := N5.cell 0
  have c1 := N5.cell 1
  have c2 := N5.cell 2
  have c3 := N5.cell 3
  have c4 := N5.cell 4
  have c5 := N5.cell 5
  simp only [List.getElem?_cons_zero, List.getElem?_cons_succ] at c0 c1 c2 c3 c4 c5
  have s0 := S5.cell 0
  have s1 := S5.cell 1
  have s2 := S5.cell 2
  have s3 := S5.cell 3
  simp only [List.getElem?_cons_zero, List.getElem?_cons_succ] at s0 s1 s2 s3
  cases hB : Tr.linksOk (Co.kids n.op) n.a n.b n.c i with
  | false =>
    have fin := hide (Co.node_1 (unhide HN) (unhide HOP) (Co.form_no (.inl hB)))
    go_wp2_with fail
    go_ret
    exact ⟨ret_int (unhide fin).symm, B5⟩
  | true =>
  have HB := hide hB
  clear hB
  by_cases hz : Co.high n.op = 0 ∧ n.num ≠ 0
  · have fin := hide (Co.node_1 (unhide HN) (unhide HOP) (Co.form_no (.inr hz)))
    have g1 : (Co.high n.op == 0) = true := by simp [hz.1]
    have g2 : (n.num != 0) = true := by simpa using hz.2
    clear hz
    go_wp2_with fail
    go_ret
    exact ⟨ret_int (unhide fin).symm, B5⟩
  have hz2 : Co.high n.op ≠ 0 ∨ n.num = 0 := by omega
  have HFO := hide (Co.form_yes (unhide HB) hz2)
  have hcond : (Co.high n.op == 0) = false ∨ ((Co.high n.op == 0) = true ∧ (n.num != 0) = false) := by
    by_cases q : Co.high n.op = 0
    · right; exact ⟨by simp [q], by simp; omega⟩
    · left; simpa using q
  clear hz hz2
  rcases hcond with g1 | ⟨g1, g2⟩
  · go_wp2_with fail
    refine (unhide HV5).mono ?_
    rintro e w6 ⟨rfl, hb6⟩
    have B6 : Below w.heap.size w w6 := B5.trans (hb6.mono B5.size)
    have N6 := N5.below hb6 N5.lt
    have S6 := S5.below hb6 S5.lt
    clear c0 c1 c2 c3 c4 c5 s0 s1 s2 s3 hb6 N5 S5 HV5
    by_cases hv : Co.valF n = 0
    · have HVF := hide hv
      rw [hv]
      have c4 := N6.cell 4
      have s1 := S6.cell 1
      have s2 := S6.cell 2
      simp only [List.getElem?_cons_zero, List.getElem?_cons_succ] at c4 s1 s2
      clear hv
      by_cases hlo : n.num < Co.low n.op
      · have fin := hide (Co.node_3 (unhide HN) (unhide HOP) (unhide HFO) (unhide HVF) (.inl hlo))
        have g5 : decide (n.num < Co.low n.op) = true := decide_eq_true hlo
        clear hlo
        go_wp2_with fail
        go_ret
        exact ⟨ret_int (unhide fin).symm, B6⟩
      · have g5 : decide (n.num < Co.low n.op) = false := decide_eq_false hlo
        by_cases hhi : Co.high n.op < n.num
        · have fin := hide (Co.node_3 (unhide HN) (unhide HOP) (unhide HFO) (unhide HVF) (.inr hhi))
          have g6 : decide (n.num > Co.high n.op) = true := decide_eq_true hhi
          clear hlo hhi
          go_wp2_with fail
          go_ret
          exact ⟨ret_int (unhide fin).symm, B6⟩
        · have fin := hide (Co.node_0 (unhide HN) (unhide HOP) (unhide HFO) (unhide HVF) (fun h => by rcases h with h | h; exact hlo h; exact hhi h))
          have g6 : decide (n.num > Co.high n.op) = false := decide_eq_false hhi
          clear hlo hhi
          go_wp2_with fail
          go_ret
          exact ⟨ret_int (unhide fin).symm, B6⟩
    · have fin := hide (Co.node_v (unhide HN) (unhide HOP) (unhide HFO) hv)
      generalize Co.valF n = q at *
      have g5 : (q != 0) = true := by simpa using hv
      clear hv
      go_wp2_with fail
      go_ret
      exact ⟨ret_int (unhide fin).symm, B6⟩
  · go_wp2_with fail
    refine (unhide HV5).mono ?_
    rintro e w6 ⟨rfl, hb6⟩
    have B6 : Below w.heap.size w w6 := B5.trans (hb6.mono B5.size)
    have N6 := N5.below hb6 N5.lt
    have S6 := S5.below hb6 S5.lt
    clear c0 c1 c2 c3 c4 c5 s0 s1 s2 s3 hb6 N5 S5 HV5
    by_cases hv : Co.valF n = 0
    · have HVF := hide hv
      rw [hv]
      have c4 := N6.cell 4
      have s1 := S6.cell 1
      have s2 := S6.cell 2
      simp only [List.getElem?_cons_zero, List.getElem?_cons_succ] at c4 s1 s2
      clear hv
      by_cases hlo : n.num < Co.low n.op
      · have fin := hide (Co.node_3 (unhide HN) (unhide HOP) (unhide HFO) (unhide HVF) (.inl hlo))
        have g5 : decide (n.num < Co.low n.op) = true := decide_eq_true hlo
        clear hlo
        go_wp2_with fail
        go_ret
        exact ⟨ret_int (unhide fin).symm, B6⟩
      · have g5 : decide (n.num < Co.low n.op) = false := decide_eq_false hlo
        by_cases hhi : Co.high n.op < n.num
        · have fin := hide (Co.node_3 (unhide HN) (unhide HOP) (unhide HFO) (unhide HVF) (.inr hhi))
          have g6 : decide (n.num > Co.high n.op) = true := decide_eq_true hhi
          clear hlo hhi
          go_wp2_with fail
          go_ret
          exact ⟨ret_int (unhide fin).symm, B6⟩
        · have fin := hide (Co.node_0 (unhide HN) (unhide HOP) (unhide HFO) (unhide HVF) (fun h => by rcases h with h | h; exact hlo h; exact hhi h))
          have g6 : decide (n.num > Co.high n.op) = false := decide_eq_false hhi
          clear hlo hhi
          go_wp2_with fail
          go_ret
          exact ⟨ret_int (unhide fin).symm, B6⟩
    · have fin := hide (Co.node_v (unhide HN) (unhide HOP) (unhide HFO) hv)
      generalize Co.valF n = q at *
      have g5 : (q != 0) = true := by simpa using hv
      clear hv
      go_wp2_with fail
      go_ret
      exact ⟨ret_int (unhide fin).symm, B6⟩

end Go.Proofs.Ytkjmnkbiflkpdaa
