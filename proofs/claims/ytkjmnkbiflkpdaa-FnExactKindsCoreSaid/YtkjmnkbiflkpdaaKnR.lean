/-
  What is known of a core, plainly: kinds are how many places have them; what the model tells of each node.
  The model's helpers of counts.
  The ledger of the model's walk over nodes.
-/
import Derived.Test.YtkjmnkbiflkpdaaKnL
import Derived.Test.YtkjmnkbiflkpdaaKnG
namespace Go.Proofs.Ytkjmnkbiflkpdaa
open Go.RowKit
set_option linter.unusedVariables false
set_option linter.unusedSimpArgs false
namespace Kn
/-- How many of these places have an Op. -/
def cnt (l : List Co) (j : Nat) (xs : List Int) : Int := (xs.countP fun x => (l.getD x.toNat Co.zero).op == (j : Int) + 1 : Nat)
theorem cnt_app (l : List Co) (j : Nat) (xs ys : List Int) : cnt l j (xs ++ ys) = cnt l j xs + cnt l j ys := by
  unfold cnt
  rw [List.countP_append]
  omega
theorem cnt_le (l : List Co) (j : Nat) (xs : List Int) : 0 ≤ cnt l j xs ∧ cnt l j xs ≤ xs.length := by
  unfold cnt
  have := List.countP_le_length (p := fun x => (l.getD x.toNat Co.zero).op == (j : Int) + 1) (l := xs)
  omega
theorem cnt_one (l : List Co) (j i : Nat) : cnt l j [(i : Int)] = ownK (l.getD i Co.zero).op j := by
  unfold cnt ownK
  rw [List.countP_singleton]
  by_cases h : (l.getD i Co.zero).op = (j : Int) + 1
  · rw [if_pos (by simpa using h), if_pos h]; rfl
  · rw [if_neg (by simpa using h), if_neg h]; rfl
theorem fold_cnt (l : List Co) (j : Nat) (O : Nat → List Int) : ∀ (ls : List Int) (b : Int), (∀ x ∈ ls, (at' l x.toNat).ki j = cnt l j (O x.toNat)) →
    ((ls.map Int.toNat).map (at' l)).foldl (fun s k => s + k.ki j) b = b + cnt l j (ls.flatMap fun x => O x.toNat) := by
  intro ls
  induction ls with
  | nil => intro b _; simp [cnt]
  | cons x r ih =>
    intro b h
    rw [List.map_cons, List.map_cons, List.foldl_cons, ih _ (fun y hy => h y (List.mem_cons_of_mem _ hy)), List.flatMap_cons, cnt_app, h x (List.mem_cons_self ..)]
    omega
theorem ki_cnt {l : List Co} (hf : Tr.Fine (Co.tree l)) (j : Nat) : ∀ n i, i < n → i < l.length → (at' l i).ki j = cnt l j (Tr.ord (Co.tree l) i) := by
  intro n
  induction n with
  | zero => intro i h; omega
  | succ n ih =>
    intro i h hi
    have hti : i < (Co.tree l).length := by rw [Co.tree_length]; exact hi
    rw [at_eq hf hi, Tr.ord_eq hf i hti, cnt_app, cnt_one]
    show fo (ownK (l.getD i Co.zero).op) _ j = _
    unfold fo lks
    have hlk := Co.tree_links l hi
    rw [← hlk, fold_cnt l j (Tr.ord (Co.tree l)) _ _ (fun x hx => by
      have := hf i hti x hx
      exact ih x.toNat (by omega) (by omega))]
    omega
theorem ord_short {l : List Nd} (hf : Tr.Fine l) (ho : Tr.inOrder l = true) {i : Nat} (hi : i < l.length) : (Tr.ord l i).length ≤ i + 1 := by
  cases hs : Tr.stk l (i + 1) with
  | none =>
    have := Tr.stk_none_le hs (show i + 1 ≤ l.length by omega)
    unfold Tr.inOrder at ho
    rw [this] at ho
    cases ho
  | some st =>
    obtain ⟨_, h2, h3⟩ := Tr.stk_fwd hf (i + 1) (by omega) st hs
    obtain ⟨r, rfl⟩ := h3 (by omega)
    have h4 := congrArg List.length h2
    rw [Tr.up_length, List.flatMap_append, List.length_append] at h4
    simp at h4
    omega
theorem ki_fit {l : List Co} (hf : Tr.Fine (Co.tree l)) (ho : Tr.inOrder (Co.tree l) = true) (h900 : l.length ≤ 900) {i : Nat} (hi : i < l.length) : KF (at' l i).ki 1000 := fun j _ => by
  rw [ki_cnt hf j l.length i hi hi]
  have h1 := cnt_le l j (Tr.ord (Co.tree l) i)
  have h2 := ord_short hf ho (i := i) (by rw [Co.tree_length]; exact hi)
  omega
/-- The last node's kinds are those of all places. -/
theorem ki_last {l : List Co} (hf : Tr.Fine (Co.tree l)) (ho : Tr.inOrder (Co.tree l) = true) (h0 : 0 < l.length) (j : Nat) : (at' l (l.length - 1)).ki j = cnt l j (Tr.up 0 l.length) := by
  rw [ki_cnt hf j l.length (l.length - 1) (by omega) (by omega)]
  have := (Tr.inOrder_iff hf (by rw [Co.tree_length]; exact h0)).1 ho
  rw [Co.tree_length] at this
  rw [this]
theorem lks_leaf {c : Co} (h : Co.kids c.op = 0) : lks c = [] := by unfold lks; rw [h]; rfl
theorem lks_1 {c : Co} (h : Co.kids c.op = 1) : lks c = [c.a.toNat] := by unfold lks; rw [h]; rfl
theorem lks_2 {c : Co} (h : Co.kids c.op = 2) : lks c = [c.a.toNat, c.b.toNat] := by unfold lks; rw [h]; rfl
theorem lks_3 {c : Co} (h : Co.kids c.op = 3) : lks c = [c.a.toNat, c.b.toNat, c.c.toNat] := by unfold lks; rw [h]; rfl
theorem isEmpty_iff {l : List Co} (hf : Tr.Fine (Co.tree l)) {i : Nat} (hi : i < l.length) (h1 : 1 ≤ (l.getD i Co.zero).op) (h2 : (l.getD i Co.zero).op ≤ 17) : isEmpty (at' l i) = ((l.getD i Co.zero).op == 17) := by
  by_cases h : (l.getD i Co.zero).op = 17
  · rw [show ((l.getD i Co.zero).op == 17) = true by simpa using h]
    unfold isEmpty
    rw [List.all_eq_true]
    intro j hj
    rw [at_eq hf hi, lks_leaf (by rw [h]; decide)]
    show (fo (ownK (l.getD i Co.zero).op) _ j == _) = true
    unfold fo ownK
    rw [h]
    simp only [List.map_nil, List.foldl_nil, beq_iff_eq]
    by_cases e : j = 16
    · subst e; rfl
    · rw [if_neg e, if_neg (by omega)]
  · rw [show ((l.getD i Co.zero).op == 17) = false by simpa using h]
    cases he : isEmpty (at' l i) with
    | false => rfl
    | true =>
      unfold isEmpty at he
      rw [List.all_eq_true] at he
      have h3 := he ((l.getD i Co.zero).op - 1).toNat (by rw [List.mem_range]; omega)
      rw [ki_cnt hf _ l.length i hi hi, if_neg (by omega)] at h3
      obtain ⟨r, hr⟩ := Tr.ord_last (l := Co.tree l) i
      rw [hr, cnt_app, cnt_one] at h3
      have h4 := cnt_le l ((l.getD i Co.zero).op - 1).toNat r
      unfold ownK at h3
      rw [if_pos (by omega), beq_iff_eq] at h3
      omega
/-! What the model makes of what it is told of the parts. -/
def sT (a b : Kn) : Int × Int × Bool := (cp (a.lo * b.lo), cp (a.hi * b.hi), a.fa || b.fa)
def t3 (k : Kn) : Int × Int × Bool := (k.lo, k.hi, k.fa)
theorem cp_one {x : Int} (h : x ≤ 1000) : cp (1 * x) = x := by rw [Int.one_mul, cp_id h]
theorem node_leaf {c : Co} (h : c.op = 1 ∨ c.op = 2 ∨ c.op = 15) : t3 (node c []) = (1, 1, false) := by
  unfold t3 node bd mf own
  rcases h with h | h | h <;> simp [h]
theorem node_17 {c : Co} (h : c.op = 17) : t3 (node c []) = (0, 0, false) := by unfold t3 node bd mf own; simp [h]
theorem node_16 {c : Co} (h : c.op = 16) : t3 (node c []) = (1, 1, c.num != 3) := by unfold t3 node bd mf own; simp [h]
theorem bd_two {A B : Kn} (hA : Fit A) : [A, B].foldl times (1, 1) = (cp (A.lo * B.lo), cp (A.hi * B.hi)) := by
  show times (times (1, 1) A) B = _
  unfold times
  simp only
  rw [cp_one hA.l1, cp_one hA.h1]
theorem node_3 {c : Co} {A B : Kn} (hA : Fit A) (h : c.op = 3 ∨ c.op = 14) : t3 (node c [A, B]) = sT A B := by
  have e : bd c [A, B] = (cp (A.lo * B.lo), cp (A.hi * B.hi)) := by
    rw [← bd_two hA]
    unfold bd
    rcases h with h | h <;> simp [h]
  unfold t3 node mf own sT
  rw [e]
  rcases h with h | h <;> simp [h]
theorem node_6 {c : Co} {A B : Kn} (hA : Fit A) (h : c.op = 6) : t3 (node c [A, B]) = (cp (A.lo * B.lo), cp (A.hi * B.hi), (A.fa || B.fa) || !(decide (4 ≤ c.num) && decide (c.num ≤ 9))) := by
  have e : bd c [A, B] = (cp (A.lo * B.lo), cp (A.hi * B.hi)) := by
    rw [← bd_two hA]
    unfold bd
    simp [h]
  unfold t3 node mf own
  rw [e]
  have e2 : (!(decide (4 ≤ c.num) && decide (c.num ≤ 9))) = (decide (c.num < 4) || decide (9 < c.num)) := by
    by_cases p : c.num < 4
    · simp [p]
    · by_cases q : 9 < c.num
      · simp [p, q]
      · simp [p, q]; omega
  rw [e2]
  simp [h, Bool.or_comm]
theorem node_7 {c : Co} {A B : Kn} (hA : Fit A) (h : c.op = 7 ∨ c.op = 11) : t3 (node c [A, B]) = (cp (A.lo * B.lo), cp (A.hi * B.hi), true) := by
  have e : bd c [A, B] = (cp (A.lo * B.lo), cp (A.hi * B.hi)) := by
    rw [← bd_two hA]
    unfold bd
    rcases h with h | h <;> simp [h]
  unfold t3 node mf own
  rw [e]
  rcases h with h | h <;> simp [h]
theorem node_4 {c : Co} {A B : Kn} (hA : Fit A) (h : c.op = 4) : t3 (node c [A, B]) = (cp (A.lo + B.lo), cp (A.hi + B.hi), A.fa || B.fa) := by
  have e : bd c [A, B] = (cp (A.lo + B.lo), cp (A.hi + B.hi)) := by
    unfold bd
    simp only [h]
    show plus (plus (0, 0) A) B = _
    unfold plus
    simp only
    rw [Int.zero_add, Int.zero_add, cp_id hA.l1, cp_id hA.h1]
  unfold t3 node mf own
  rw [e]
  simp [h]
theorem node_12 {c : Co} {A B C : Kn} (h : c.op = 12) : t3 (node c [A, B, C]) = (cp (A.lo * lt B.lo C.lo), cp (A.hi * gt B.hi C.hi), A.fa || (B.fa || C.fa)) := by
  unfold t3 node bd mf own
  simp only [h]
  simp [times, either, g, Int.mul_comm]
theorem node_8 {c : Co} {A : Kn} (hA : Fit A) (h : c.op = 8) : t3 (node c [A]) = if A.hi = 0 then (0, 0, A.fa) else (0, 1000, true) := by
  have h0 := hA.h0
  unfold t3 node bd mf own
  simp only [h]
  by_cases e : A.hi = 0
  · simp [times, g, e, cp]
  · have e1 : cp (1000 * A.hi) = 1000 := by unfold cp; split <;> omega
    have e2 : (0 : Int) < A.hi := by omega
    simp [times, g, e, e1, e2]
    unfold cp; rfl
theorem node_9 {c : Co} {A : Kn} (h : c.op = 9) : t3 (node c [A]) = (if A.fa = true then 0 else A.lo, A.hi, false) := by
  unfold t3 node bd mf own tried
  simp [h, g]
theorem node_10 {c : Co} {A : Kn} {x : Int} (he : isEmpty A = (x == 17)) (hf : A.fa = true → x ≠ 17) (h : c.op = 10) : t3 (node c [A]) = (1, 1, x != 17) := by
  unfold t3 node bd mf own
  simp only [h]
  have e : (!isEmpty A || A.fa) = (x != 17) := by
    rw [he]
    by_cases p : x = 17
    · have : A.fa = false := by
        cases q : A.fa with
        | false => rfl
        | true => exact absurd p (hf q)
      rw [p, this]; rfl
    · have q : (x == 17) = false := beq_false_of_ne p
      rw [bne, q]; rfl
  simpa [g] using e
theorem node_13 {c : Co} {A B C : Kn} (h : c.op = 13) : t3 (node c [A, B, C]) = (B.lo, B.hi, (A.fa || B.fa) || C.fa) := by
  unfold t3 node bd mf own
  simp [h, g, Bool.or_assoc]
theorem node_5 {c : Co} {A B : Kn} (hB : Fit B) (h : c.op = 5) : t3 (node c [A, B]) = (if 0 < A.hi ∧ 0 < B.lo then 1 else B.lo, gt A.hi B.hi, B.fa) := by
  have h0 := hB.l0
  unfold t3 node bd mf own alt
  simp only [h]
  have e : (if 0 < A.hi then lt B.lo 1 else B.lo) = if 0 < A.hi ∧ 0 < B.lo then 1 else B.lo := by
    unfold lt
    split <;> split <;> (try split) <;> omega
  simp [g, e]
theorem empty_sure {l : List Co} (hf : Tr.Fine (Co.tree l)) {i : Nat} (hi : i < l.length) (h : (at' l i).fa = true) : (l.getD i Co.zero).op ≠ 17 := fun h17 => by
  rw [at_eq hf hi, lks_leaf (by rw [h17]; decide)] at h
  have e : (node (l.getD i Co.zero) []).fa = false := congrArg (fun t => t.2.2) (node_17 h17)
  rw [List.map_nil, e] at h
  cases h
end Kn
end Go.Proofs.Ytkjmnkbiflkpdaa

namespace Go.Proofs.Ytkjmnkbiflkpdaa
open Go.RowKit
set_option linter.unusedVariables false
set_option linter.unusedSimpArgs false

namespace Kn
theorem four_co {w : World} {b : Nat} {x y z u : Value} (h : Own w b 25 [x, y, z, u]) : w.cell? ⟨b, 0, none⟩ = some x ∧ w.cell? ⟨b, 1, none⟩ = some y ∧ w.cell? ⟨b, 2, none⟩ = some z ∧ w.cell? ⟨b, 3, none⟩ = some u := ⟨h.cell 0, h.cell 1, h.cell 2, h.cell 3⟩
theorem four_fr {w : World} {b : Nat} {xs : List Value} (h : Own w b 25 xs) : w.frozen? ⟨b, 0, none⟩ = false ∧ w.frozen? ⟨b, 1, none⟩ = false ∧ w.frozen? ⟨b, 2, none⟩ = false ∧ w.frozen? ⟨b, 3, none⟩ = false := ⟨h.frozen 0, h.frozen 1, h.frozen 2, h.frozen 3⟩
/-- Four cells are written. -/
def put4 (w : World) (b : Nat) (x y z u : Value) : World := (((w.setCell ⟨b, 0, none⟩ x).setCell ⟨b, 1, none⟩ y).setCell ⟨b, 2, none⟩ z).setCell ⟨b, 3, none⟩ u
theorem put4_own {w : World} {b : Nat} {x0 y0 z0 u0 : Value} (h : Own w b 25 [x0, y0, z0, u0]) (x y z u : Value) : Own (put4 w b x y z u) b 25 [x, y, z, u] := (((h.set 0 x).set 1 y).set 2 z).set 3 u
theorem put4_far {w : World} {b c : Nat} {t : TypeId} {xs : List Value} (h : Own w c t xs) (hne : c ≠ b) (x y z u : Value) : Own (put4 w b x y z u) c t xs := (((h.setOther ⟨b, 0, none⟩ x hne).setOther ⟨b, 1, none⟩ y hne).setOther ⟨b, 2, none⟩ z hne).setOther ⟨b, 3, none⟩ u hne
theorem put4_below {B : Nat} {w0 w : World} {b : Nat} (h : Below B w0 w) (hB : B ≤ b) (x y z u : Value) : Below B w0 (put4 w b x y z u) := (((h.setCell (p := ⟨b, 0, none⟩) hB x).setCell (p := ⟨b, 1, none⟩) hB y).setCell (p := ⟨b, 2, none⟩) hB z).setCell (p := ⟨b, 3, none⟩) hB u
theorem new3a (w : World) (o1 o2 : Obj) (c : Array Value) (t : TypeId) : Own (((w.alloc (.cells c t)).alloc o1).alloc o2) w.heap.size t c.toList := by
  exact Own.below (w := w.alloc _) ⟨_, heap_alloc_new _ _, rfl⟩ (((Below.refl _ _).alloc (Nat.le_refl _) _).alloc (by simp) _) (by simp)
theorem new3b (w : World) (o1 o2 : Obj) (c : Array Value) (t : TypeId) : Own (((w.alloc o1).alloc (.cells c t)).alloc o2) (w.heap.size + 1) t c.toList := by
  have h : Own ((w.alloc o1).alloc (.cells c t)) (w.alloc o1).heap.size t c.toList := ⟨_, heap_alloc_new _ _, rfl⟩
  have h2 := h.below ((Below.refl _ _).alloc (Nat.le_refl _) o2) h.lt
  simpa using h2
theorem new3c (w : World) (o1 o2 : Obj) (c : Array Value) (t : TypeId) : Own (((w.alloc o1).alloc o2).alloc (.cells c t)) (w.heap.size + 1 + 1) t c.toList := by
  have h : Own (((w.alloc o1).alloc o2).alloc (.cells c t)) ((w.alloc o1).alloc o2).heap.size t c.toList := ⟨_, heap_alloc_new _ _, rfl⟩
  simpa using h
end Kn
set_option maxRecDepth 100000 in
set_option maxHeartbeats 4000000 in
theorem l1Min_kn (a b : Int) (w : World) : Calls Try.prog 40 #[.int .i64 a, .int .i64 b] w fun e w' => e = .returned (.int .i64 (Kn.lt a b)) ∧ w' = w := by
  by_cases h : a < b
  · have FIN := hide (show a = Kn.lt a b by unfold Kn.lt; rw [if_pos (by omega)])
    go_enter Try.func40, Try.ntmps40
    go_wp2_with fail
    go_ret
    exact ⟨ret_int (unhide FIN), rfl⟩
  · have FIN := hide (show b = Kn.lt a b by unfold Kn.lt; split <;> omega)
    go_enter Try.func40, Try.ntmps40
    go_wp2_with fail
    go_ret
    exact ⟨ret_int (unhide FIN), rfl⟩
set_option maxRecDepth 100000 in
set_option maxHeartbeats 4000000 in
theorem l1Max_kn (a b : Int) (w : World) : Calls Try.prog 36 #[.int .i64 a, .int .i64 b] w fun e w' => e = .returned (.int .i64 (Kn.gt a b)) ∧ w' = w := by
  by_cases h : b < a
  · have FIN := hide (show a = Kn.gt a b by unfold Kn.gt; rw [if_pos (by omega)])
    go_enter Try.func36, Try.ntmps36
    go_wp2_with fail
    go_ret
    exact ⟨ret_int (unhide FIN), rfl⟩
  · have FIN := hide (show b = Kn.gt a b by unfold Kn.gt; split <;> omega)
    go_enter Try.func36, Try.ntmps36
    go_wp2_with fail
    go_ret
    exact ⟨ret_int (unhide FIN), rfl⟩
set_option maxRecDepth 100000 in
set_option maxHeartbeats 4000000 in
theorem l11Many_any (n : Int) (w : World) : Calls Try.prog 39 #[.int .i64 n] w fun e w' => e = .returned (.int .i64 (Kn.cp n)) ∧ w' = w := by
  have HM := hide (fun W => l1Min_kn 1000 n W)
  have FIN := hide (show Kn.lt 1000 n = Kn.cp n by unfold Kn.lt Kn.cp; split <;> split <;> omega)
  generalize Kn.lt 1000 n = r at *
  go_enter Try.func39, Try.ntmps39
  go_wp2_with fail
  refine ((unhide HM) _).mono ?_
  rintro e w1 ⟨rfl, hw1⟩
  subst w1
  go_wp2_with fail
  go_ret
  exact ⟨ret_int (unhide FIN), rfl⟩
set_option maxRecDepth 100000 in
set_option maxHeartbeats 4000000 in
theorem l11Times_any (al ah bl bh : Int) (af bf : Bool) (w : World) (h1 : 0 ≤ al ∧ al ≤ 1000) (h2 : 0 ≤ ah ∧ ah ≤ 1000) (h3 : 0 ≤ bl ∧ bl ≤ 1000) (h4 : 0 ≤ bh ∧ bh ≤ 1000) :
    Calls Try.prog 38 #[.agg #[.int .i64 0, .int .i64 al, .int .i64 ah, .bool af], .agg #[.int .i64 0, .int .i64 bl, .int .i64 bh, .bool bf]] w fun e w' => e = .returned (.agg #[.int .i64 0, .int .i64 (Kn.cp (al * bl)), .int .i64 (Kn.cp (ah * bh)), .bool (af || bf)]) ∧ Below w.heap.size w w' := by
  have m1 : 0 ≤ al * bl ∧ al * bl ≤ 1000000 := ⟨Kn.mul_ge h1.1 h3.1, Kn.mul_le h1.1 h1.2 h3.1 h3.2⟩
  have m2 : 0 ≤ ah * bh ∧ ah * bh ≤ 1000000 := ⟨Kn.mul_ge h2.1 h4.1, Kn.mul_le h2.1 h2.2 h4.1 h4.2⟩
  obtain ⟨X, hX⟩ : ∃ X, X = al * bl := ⟨_, rfl⟩
  obtain ⟨Y, hY⟩ : ∃ Y, Y = ah * bh := ⟨_, rfl⟩
  have wX : IntKind.i64.wrap (al * bl) = X := by rw [hX]; exact IntWalk.i64_in _ ⟨by omega, by omega⟩
  have wY : IntKind.i64.wrap (ah * bh) = Y := by rw [hY]; exact IntWalk.i64_in _ ⟨by omega, by omega⟩
  rw [← hX, ← hY]
  have HX := hide (fun V => l11Many_any X V)
  have HY := hide (fun V => l11Many_any Y V)
  generalize Kn.cp X = PX at *
  generalize Kn.cp Y = PY at *
  clear h1 h2 h3 h4 m1 m2 hX hY
  obtain ⟨W, hW⟩ : ∃ W, W = ((w.alloc (.cells #[.int .i64 0, .int .i64 al, .int .i64 ah, .bool af] 25)).alloc (.cells #[.int .i64 0, .int .i64 bl, .int .i64 bh, .bool bf] 25)).alloc (.cells #[.int .i64 0, .int .i64 0, .int .i64 0, .bool false] 25) := ⟨_, rfl⟩
  have BN : Below w.heap.size w W := by rw [hW]; exact Kn.bel3 _ _ _ _
  have OA : Own W w.heap.size 25 [.int .i64 0, .int .i64 al, .int .i64 ah, .bool af] := by rw [hW]; exact Kn.new3a _ _ _ _ _
  have OB : Own W (w.heap.size + 1) 25 [.int .i64 0, .int .i64 bl, .int .i64 bh, .bool bf] := by rw [hW]; exact Kn.new3b _ _ _ _ _
  have OR : Own W (w.heap.size + 1 + 1) 25 [.int .i64 0, .int .i64 0, .int .i64 0, .bool false] := by rw [hW]; exact Kn.new3c _ _ _ _ _
  cases af
  · rw [Bool.false_or]
    go_enter Try.func38, Try.ntmps38
    go_upto_region 1 with fail
    rw [← hW]
    clear hW
    refine Z.region 19 (fun w' => Below W.heap.size W w') (by kernel_rfl) (Below.refl _ _).drew (fun hHeld => ?_)
    refine Z.take (i := 0) (d := 5) (v := .pointer (some ⟨w.heap.size, 1, none⟩)) rfl rfl (by kernel_rfl) (by kernel_rfl) (by kernel_rfl) (by kernel_rfl) (fun _ _ _ h => h) (Or.inl ⟨by rfl, ?_⟩) hHeld ?_
    · intro w' hSw; obtain ⟨s0, s1, s2, s3⟩ := Kn.four_co (OA.below hSw OA.lt); obtain ⟨r0, r1, r2, r3⟩ := Kn.four_co (OB.below hSw OB.lt); go_simp
    simp only [Act.put, List.setIfInBounds_toArray, List.set_cons_zero, List.set_cons_succ]
    refine Z.take (i := 1) (d := 6) (v := .int .i64 al) rfl rfl (by kernel_rfl) (by kernel_rfl) (by kernel_rfl) (by kernel_rfl) (fun _ _ _ h => h) (Or.inl ⟨by rfl, ?_⟩) hHeld ?_
    · intro w' hSw; obtain ⟨s0, s1, s2, s3⟩ := Kn.four_co (OA.below hSw OA.lt); obtain ⟨r0, r1, r2, r3⟩ := Kn.four_co (OB.below hSw OB.lt); go_simp
    simp only [Act.put, List.setIfInBounds_toArray, List.set_cons_zero, List.set_cons_succ]
    refine Z.take (i := 2) (d := 7) (v := .pointer (some ⟨w.heap.size + 1, 1, none⟩)) rfl rfl (by kernel_rfl) (by kernel_rfl) (by kernel_rfl) (by kernel_rfl) (fun _ _ _ h => h) (Or.inl ⟨by rfl, ?_⟩) hHeld ?_
    · intro w' hSw; obtain ⟨s0, s1, s2, s3⟩ := Kn.four_co (OA.below hSw OA.lt); obtain ⟨r0, r1, r2, r3⟩ := Kn.four_co (OB.below hSw OB.lt); go_simp
    simp only [Act.put, List.setIfInBounds_toArray, List.set_cons_zero, List.set_cons_succ]
    refine Z.take (i := 3) (d := 8) (v := .int .i64 bl) rfl rfl (by kernel_rfl) (by kernel_rfl) (by kernel_rfl) (by kernel_rfl) (fun _ _ _ h => h) (Or.inl ⟨by rfl, ?_⟩) hHeld ?_
    · intro w' hSw; obtain ⟨s0, s1, s2, s3⟩ := Kn.four_co (OA.below hSw OA.lt); obtain ⟨r0, r1, r2, r3⟩ := Kn.four_co (OB.below hSw OB.lt); go_simp
    simp only [Act.put, List.setIfInBounds_toArray, List.set_cons_zero, List.set_cons_succ]
    refine Z.take (i := 4) (d := 9) (v := .int .i64 X) rfl rfl (by kernel_rfl) (by kernel_rfl) (by kernel_rfl) (by kernel_rfl) (fun _ _ _ h => h) (Or.inl ⟨by rfl, ?_⟩) hHeld ?_
    · intro w' hSw; obtain ⟨s0, s1, s2, s3⟩ := Kn.four_co (OA.below hSw OA.lt); obtain ⟨r0, r1, r2, r3⟩ := Kn.four_co (OB.below hSw OB.lt); go_simp
    simp only [Act.put, List.setIfInBounds_toArray, List.set_cons_zero, List.set_cons_succ]
    refine Z.take (i := 6) (d := 11) (v := .pointer (some ⟨w.heap.size, 2, none⟩)) rfl rfl (by kernel_rfl) (by kernel_rfl) (by kernel_rfl) (by kernel_rfl) (fun _ _ _ h => h) (Or.inl ⟨by rfl, ?_⟩) hHeld ?_
    · intro w' hSw; obtain ⟨s0, s1, s2, s3⟩ := Kn.four_co (OA.below hSw OA.lt); obtain ⟨r0, r1, r2, r3⟩ := Kn.four_co (OB.below hSw OB.lt); go_simp
    simp only [Act.put, List.setIfInBounds_toArray, List.set_cons_zero, List.set_cons_succ]
    refine Z.take (i := 7) (d := 12) (v := .int .i64 ah) rfl rfl (by kernel_rfl) (by kernel_rfl) (by kernel_rfl) (by kernel_rfl) (fun _ _ _ h => h) (Or.inl ⟨by rfl, ?_⟩) hHeld ?_
    · intro w' hSw; obtain ⟨s0, s1, s2, s3⟩ := Kn.four_co (OA.below hSw OA.lt); obtain ⟨r0, r1, r2, r3⟩ := Kn.four_co (OB.below hSw OB.lt); go_simp
    simp only [Act.put, List.setIfInBounds_toArray, List.set_cons_zero, List.set_cons_succ]
    refine Z.take (i := 8) (d := 13) (v := .pointer (some ⟨w.heap.size + 1, 2, none⟩)) rfl rfl (by kernel_rfl) (by kernel_rfl) (by kernel_rfl) (by kernel_rfl) (fun _ _ _ h => h) (Or.inl ⟨by rfl, ?_⟩) hHeld ?_
    · intro w' hSw; obtain ⟨s0, s1, s2, s3⟩ := Kn.four_co (OA.below hSw OA.lt); obtain ⟨r0, r1, r2, r3⟩ := Kn.four_co (OB.below hSw OB.lt); go_simp
    simp only [Act.put, List.setIfInBounds_toArray, List.set_cons_zero, List.set_cons_succ]
    refine Z.take (i := 9) (d := 14) (v := .int .i64 bh) rfl rfl (by kernel_rfl) (by kernel_rfl) (by kernel_rfl) (by kernel_rfl) (fun _ _ _ h => h) (Or.inl ⟨by rfl, ?_⟩) hHeld ?_
    · intro w' hSw; obtain ⟨s0, s1, s2, s3⟩ := Kn.four_co (OA.below hSw OA.lt); obtain ⟨r0, r1, r2, r3⟩ := Kn.four_co (OB.below hSw OB.lt); go_simp
    simp only [Act.put, List.setIfInBounds_toArray, List.set_cons_zero, List.set_cons_succ]
    refine Z.take (i := 10) (d := 15) (v := .int .i64 Y) rfl rfl (by kernel_rfl) (by kernel_rfl) (by kernel_rfl) (by kernel_rfl) (fun _ _ _ h => h) (Or.inl ⟨by rfl, ?_⟩) hHeld ?_
    · intro w' hSw; obtain ⟨s0, s1, s2, s3⟩ := Kn.four_co (OA.below hSw OA.lt); obtain ⟨r0, r1, r2, r3⟩ := Kn.four_co (OB.below hSw OB.lt); go_simp
    simp only [Act.put, List.setIfInBounds_toArray, List.set_cons_zero, List.set_cons_succ]
    refine Z.take (i := 12) (d := 17) (v := .pointer (some ⟨w.heap.size, 3, none⟩)) rfl rfl (by kernel_rfl) (by kernel_rfl) (by kernel_rfl) (by kernel_rfl) (fun _ _ _ h => h) (Or.inl ⟨by rfl, ?_⟩) hHeld ?_
    · intro w' hSw; obtain ⟨s0, s1, s2, s3⟩ := Kn.four_co (OA.below hSw OA.lt); obtain ⟨r0, r1, r2, r3⟩ := Kn.four_co (OB.below hSw OB.lt); go_simp
    simp only [Act.put, List.setIfInBounds_toArray, List.set_cons_zero, List.set_cons_succ]
    refine Z.take (i := 13) (d := 18) (v := .bool false) rfl rfl (by kernel_rfl) (by kernel_rfl) (by kernel_rfl) (by kernel_rfl) (fun _ _ _ h => h) (Or.inl ⟨by rfl, ?_⟩) hHeld ?_
    · intro w' hSw; obtain ⟨s0, s1, s2, s3⟩ := Kn.four_co (OA.below hSw OA.lt); obtain ⟨r0, r1, r2, r3⟩ := Kn.four_co (OB.below hSw OB.lt); go_simp
    simp only [Act.put, List.setIfInBounds_toArray, List.set_cons_zero, List.set_cons_succ]
    refine Z.call1 (i := 5) (d := 10) rfl rfl (by kernel_rfl) (by rfl) (fun K hK => ?_)
    go_simp
    refine ((unhide HX) _).mono ?_
    rintro e wz ⟨rfl, hwz⟩
    subst wz
    go_simp
    refine hK.out (.int .i64 PX) _ hHeld ?_
    clear hK K
    simp only [Act.put, List.setIfInBounds_toArray, List.set_cons_zero, List.set_cons_succ]
    refine Z.call1 (i := 11) (d := 16) rfl rfl (by kernel_rfl) (by rfl) (fun K hK => ?_)
    go_simp
    refine ((unhide HY) _).mono ?_
    rintro e wz ⟨rfl, hwz⟩
    subst wz
    go_simp
    refine hK.out (.int .i64 PY) _ hHeld ?_
    clear hK K
    simp only [Act.put, List.setIfInBounds_toArray, List.set_cons_zero, List.set_cons_succ]
    refine Z.take (i := 14) (d := 19) (v := .bool false) rfl rfl (by kernel_rfl) (by kernel_rfl) (by kernel_rfl) (by kernel_rfl) (fun _ _ _ h => h) (Or.inl ⟨by rfl, ?_⟩) hHeld ?_
    · intro w' hSw; obtain ⟨s0, s1, s2, s3⟩ := Kn.four_co (OA.below hSw OA.lt); obtain ⟨r0, r1, r2, r3⟩ := Kn.four_co (OB.below hSw OB.lt); go_simp
    simp only [Act.put, List.setIfInBounds_toArray, List.set_cons_zero, List.set_cons_succ]
    refine Z.take (i := 15) (d := 20) (v := .pointer (some ⟨w.heap.size + 1, 3, none⟩)) rfl rfl (by kernel_rfl) (by kernel_rfl) (by kernel_rfl) (by kernel_rfl) (fun _ _ _ h => h) (Or.inl ⟨by rfl, ?_⟩) hHeld ?_
    · intro w' hSw; obtain ⟨s0, s1, s2, s3⟩ := Kn.four_co (OA.below hSw OA.lt); obtain ⟨r0, r1, r2, r3⟩ := Kn.four_co (OB.below hSw OB.lt); go_simp
    simp only [Act.put, List.setIfInBounds_toArray, List.set_cons_zero, List.set_cons_succ]
    refine Z.take (i := 16) (d := 21) (v := .bool bf) rfl rfl (by kernel_rfl) (by kernel_rfl) (by kernel_rfl) (by kernel_rfl) (fun _ _ _ h => h) (Or.inl ⟨by rfl, ?_⟩) hHeld ?_
    · intro w' hSw; obtain ⟨s0, s1, s2, s3⟩ := Kn.four_co (OA.below hSw OA.lt); obtain ⟨r0, r1, r2, r3⟩ := Kn.four_co (OB.below hSw OB.lt); go_simp
    simp only [Act.put, List.setIfInBounds_toArray, List.set_cons_zero, List.set_cons_succ]
    refine Z.take (i := 17) (d := 22) (v := .bool bf) rfl rfl (by kernel_rfl) (by kernel_rfl) (by kernel_rfl) (by kernel_rfl) (fun _ _ _ h => h) (Or.inl ⟨by rfl, ?_⟩) hHeld ?_
    · intro w' hSw; obtain ⟨s0, s1, s2, s3⟩ := Kn.four_co (OA.below hSw OA.lt); obtain ⟨r0, r1, r2, r3⟩ := Kn.four_co (OB.below hSw OB.lt); go_simp
    simp only [Act.put, List.setIfInBounds_toArray, List.set_cons_zero, List.set_cons_succ]
    refine Z.take (i := 18) (d := 23) (v := .agg #[.int .i64 0, .int .i64 PX, .int .i64 PY, .bool bf]) rfl rfl (by kernel_rfl) (by kernel_rfl) (by kernel_rfl) (by kernel_rfl) (fun _ _ _ h => h) (Or.inl ⟨by rfl, ?_⟩) hHeld ?_
    · intro w' hSw; go_simp
    simp only [Act.put, List.setIfInBounds_toArray, List.set_cons_zero, List.set_cons_succ]
    have ORW := OR.below hHeld OR.lt
    have BRW : Below w.heap.size w W.drew := BN.drew
    clear OA OB OR BN
    generalize W.drew = WD at *
    obtain ⟨c0, c1, c2, c3⟩ := Kn.four_co ORW
    obtain ⟨z0, z1, z2, z3⟩ := Kn.four_fr ORW
    have O2 := hide (Kn.put4_own ORW (.int .i64 0) (.int .i64 PX) (.int .i64 PY) (.bool bf))
    have B2 := hide (Kn.put4_below BRW (show w.heap.size ≤ w.heap.size + 1 + 1 by omega) (.int .i64 0) (.int .i64 PX) (.int .i64 PY) (.bool bf))
    refine Z.last_at (w' := Kn.put4 WD (w.heap.size + 1 + 1) (.int .i64 0) (.int .i64 PX) (.int .i64 PY) (.bool bf)) rfl (by kernel_rfl) (by rfl) (fun K hK => ?_) ?_
    · unfold Kn.put4 at hK
      go_simp
      exact hK.out
    refine Z.done (by kernel_rfl) ?_ _
    have q := Kn.four_co (unhide O2)
    have BF := unhide B2
    clear O2 B2 c0 c1 c2 c3 z0 z1 z2 z3 ORW BRW
    generalize Kn.put4 WD (w.heap.size + 1 + 1) (.int .i64 0) (.int .i64 PX) (.int .i64 PY) (.bool bf) = WW at *
    obtain ⟨q0, q1, q2, q3⟩ := q
    go_wp2_with fail
    refine bodyPost_ret (v := .agg #[.int .i64 0, .int .i64 PX, .int .i64 PY, .bool bf]) (by simp [results, Try.results38, go_sem, q0, q1, q2, q3]; try rfl) rfl ?_
    exact ⟨rfl, BF⟩
  · rw [Bool.true_or]
    go_enter Try.func38, Try.ntmps38
    go_upto_region 1 with fail
    rw [← hW]
    clear hW
    refine Z.region 19 (fun w' => Below W.heap.size W w') (by kernel_rfl) (Below.refl _ _).drew (fun hHeld => ?_)
    refine Z.take (i := 0) (d := 5) (v := .pointer (some ⟨w.heap.size, 1, none⟩)) rfl rfl (by kernel_rfl) (by kernel_rfl) (by kernel_rfl) (by kernel_rfl) (fun _ _ _ h => h) (Or.inl ⟨by rfl, ?_⟩) hHeld ?_
    · intro w' hSw; obtain ⟨s0, s1, s2, s3⟩ := Kn.four_co (OA.below hSw OA.lt); obtain ⟨r0, r1, r2, r3⟩ := Kn.four_co (OB.below hSw OB.lt); go_simp
    simp only [Act.put, List.setIfInBounds_toArray, List.set_cons_zero, List.set_cons_succ]
    refine Z.take (i := 1) (d := 6) (v := .int .i64 al) rfl rfl (by kernel_rfl) (by kernel_rfl) (by kernel_rfl) (by kernel_rfl) (fun _ _ _ h => h) (Or.inl ⟨by rfl, ?_⟩) hHeld ?_
    · intro w' hSw; obtain ⟨s0, s1, s2, s3⟩ := Kn.four_co (OA.below hSw OA.lt); obtain ⟨r0, r1, r2, r3⟩ := Kn.four_co (OB.below hSw OB.lt); go_simp
    simp only [Act.put, List.setIfInBounds_toArray, List.set_cons_zero, List.set_cons_succ]
    refine Z.take (i := 2) (d := 7) (v := .pointer (some ⟨w.heap.size + 1, 1, none⟩)) rfl rfl (by kernel_rfl) (by kernel_rfl) (by kernel_rfl) (by kernel_rfl) (fun _ _ _ h => h) (Or.inl ⟨by rfl, ?_⟩) hHeld ?_
    · intro w' hSw; obtain ⟨s0, s1, s2, s3⟩ := Kn.four_co (OA.below hSw OA.lt); obtain ⟨r0, r1, r2, r3⟩ := Kn.four_co (OB.below hSw OB.lt); go_simp
    simp only [Act.put, List.setIfInBounds_toArray, List.set_cons_zero, List.set_cons_succ]
    refine Z.take (i := 3) (d := 8) (v := .int .i64 bl) rfl rfl (by kernel_rfl) (by kernel_rfl) (by kernel_rfl) (by kernel_rfl) (fun _ _ _ h => h) (Or.inl ⟨by rfl, ?_⟩) hHeld ?_
    · intro w' hSw; obtain ⟨s0, s1, s2, s3⟩ := Kn.four_co (OA.below hSw OA.lt); obtain ⟨r0, r1, r2, r3⟩ := Kn.four_co (OB.below hSw OB.lt); go_simp
    simp only [Act.put, List.setIfInBounds_toArray, List.set_cons_zero, List.set_cons_succ]
    refine Z.take (i := 4) (d := 9) (v := .int .i64 X) rfl rfl (by kernel_rfl) (by kernel_rfl) (by kernel_rfl) (by kernel_rfl) (fun _ _ _ h => h) (Or.inl ⟨by rfl, ?_⟩) hHeld ?_
    · intro w' hSw; obtain ⟨s0, s1, s2, s3⟩ := Kn.four_co (OA.below hSw OA.lt); obtain ⟨r0, r1, r2, r3⟩ := Kn.four_co (OB.below hSw OB.lt); go_simp
    simp only [Act.put, List.setIfInBounds_toArray, List.set_cons_zero, List.set_cons_succ]
    refine Z.take (i := 6) (d := 11) (v := .pointer (some ⟨w.heap.size, 2, none⟩)) rfl rfl (by kernel_rfl) (by kernel_rfl) (by kernel_rfl) (by kernel_rfl) (fun _ _ _ h => h) (Or.inl ⟨by rfl, ?_⟩) hHeld ?_
    · intro w' hSw; obtain ⟨s0, s1, s2, s3⟩ := Kn.four_co (OA.below hSw OA.lt); obtain ⟨r0, r1, r2, r3⟩ := Kn.four_co (OB.below hSw OB.lt); go_simp
    simp only [Act.put, List.setIfInBounds_toArray, List.set_cons_zero, List.set_cons_succ]
    refine Z.take (i := 7) (d := 12) (v := .int .i64 ah) rfl rfl (by kernel_rfl) (by kernel_rfl) (by kernel_rfl) (by kernel_rfl) (fun _ _ _ h => h) (Or.inl ⟨by rfl, ?_⟩) hHeld ?_
    · intro w' hSw; obtain ⟨s0, s1, s2, s3⟩ := Kn.four_co (OA.below hSw OA.lt); obtain ⟨r0, r1, r2, r3⟩ := Kn.four_co (OB.below hSw OB.lt); go_simp
    simp only [Act.put, List.setIfInBounds_toArray, List.set_cons_zero, List.set_cons_succ]
    refine Z.take (i := 8) (d := 13) (v := .pointer (some ⟨w.heap.size + 1, 2, none⟩)) rfl rfl (by kernel_rfl) (by kernel_rfl) (by kernel_rfl) (by kernel_rfl) (fun _ _ _ h => h) (Or.inl ⟨by rfl, ?_⟩) hHeld ?_
    · intro w' hSw; obtain ⟨s0, s1, s2, s3⟩ := Kn.four_co (OA.below hSw OA.lt); obtain ⟨r0, r1, r2, r3⟩ := Kn.four_co (OB.below hSw OB.lt); go_simp
    simp only [Act.put, List.setIfInBounds_toArray, List.set_cons_zero, List.set_cons_succ]
    refine Z.take (i := 9) (d := 14) (v := .int .i64 bh) rfl rfl (by kernel_rfl) (by kernel_rfl) (by kernel_rfl) (by kernel_rfl) (fun _ _ _ h => h) (Or.inl ⟨by rfl, ?_⟩) hHeld ?_
    · intro w' hSw; obtain ⟨s0, s1, s2, s3⟩ := Kn.four_co (OA.below hSw OA.lt); obtain ⟨r0, r1, r2, r3⟩ := Kn.four_co (OB.below hSw OB.lt); go_simp
    simp only [Act.put, List.setIfInBounds_toArray, List.set_cons_zero, List.set_cons_succ]
    refine Z.take (i := 10) (d := 15) (v := .int .i64 Y) rfl rfl (by kernel_rfl) (by kernel_rfl) (by kernel_rfl) (by kernel_rfl) (fun _ _ _ h => h) (Or.inl ⟨by rfl, ?_⟩) hHeld ?_
    · intro w' hSw; obtain ⟨s0, s1, s2, s3⟩ := Kn.four_co (OA.below hSw OA.lt); obtain ⟨r0, r1, r2, r3⟩ := Kn.four_co (OB.below hSw OB.lt); go_simp
    simp only [Act.put, List.setIfInBounds_toArray, List.set_cons_zero, List.set_cons_succ]
    refine Z.take (i := 12) (d := 17) (v := .pointer (some ⟨w.heap.size, 3, none⟩)) rfl rfl (by kernel_rfl) (by kernel_rfl) (by kernel_rfl) (by kernel_rfl) (fun _ _ _ h => h) (Or.inl ⟨by rfl, ?_⟩) hHeld ?_
    · intro w' hSw; obtain ⟨s0, s1, s2, s3⟩ := Kn.four_co (OA.below hSw OA.lt); obtain ⟨r0, r1, r2, r3⟩ := Kn.four_co (OB.below hSw OB.lt); go_simp
    simp only [Act.put, List.setIfInBounds_toArray, List.set_cons_zero, List.set_cons_succ]
    refine Z.take (i := 13) (d := 18) (v := .bool true) rfl rfl (by kernel_rfl) (by kernel_rfl) (by kernel_rfl) (by kernel_rfl) (fun _ _ _ h => h) (Or.inl ⟨by rfl, ?_⟩) hHeld ?_
    · intro w' hSw; obtain ⟨s0, s1, s2, s3⟩ := Kn.four_co (OA.below hSw OA.lt); obtain ⟨r0, r1, r2, r3⟩ := Kn.four_co (OB.below hSw OB.lt); go_simp
    simp only [Act.put, List.setIfInBounds_toArray, List.set_cons_zero, List.set_cons_succ]
    refine Z.call1 (i := 5) (d := 10) rfl rfl (by kernel_rfl) (by rfl) (fun K hK => ?_)
    go_simp
    refine ((unhide HX) _).mono ?_
    rintro e wz ⟨rfl, hwz⟩
    subst wz
    go_simp
    refine hK.out (.int .i64 PX) _ hHeld ?_
    clear hK K
    simp only [Act.put, List.setIfInBounds_toArray, List.set_cons_zero, List.set_cons_succ]
    refine Z.call1 (i := 11) (d := 16) rfl rfl (by kernel_rfl) (by rfl) (fun K hK => ?_)
    go_simp
    refine ((unhide HY) _).mono ?_
    rintro e wz ⟨rfl, hwz⟩
    subst wz
    go_simp
    refine hK.out (.int .i64 PY) _ hHeld ?_
    clear hK K
    simp only [Act.put, List.setIfInBounds_toArray, List.set_cons_zero, List.set_cons_succ]
    refine Z.take (i := 14) (d := 19) (v := .bool true) rfl rfl (by kernel_rfl) (by kernel_rfl) (by kernel_rfl) (by kernel_rfl) (fun _ _ _ h => h) (Or.inl ⟨by rfl, ?_⟩) hHeld ?_
    · intro w' hSw; obtain ⟨s0, s1, s2, s3⟩ := Kn.four_co (OA.below hSw OA.lt); obtain ⟨r0, r1, r2, r3⟩ := Kn.four_co (OB.below hSw OB.lt); go_simp
    simp only [Act.put, List.setIfInBounds_toArray, List.set_cons_zero, List.set_cons_succ]
    refine Z.take (i := 15) (d := 20) (v := undef) rfl rfl (by kernel_rfl) (by kernel_rfl) (by kernel_rfl) (by kernel_rfl) (fun _ _ _ h => h) (Or.inr ⟨by rfl, rfl⟩) hHeld ?_
    simp only [Act.put, List.setIfInBounds_toArray, List.set_cons_zero, List.set_cons_succ]
    refine Z.take (i := 16) (d := 21) (v := undef) rfl rfl (by kernel_rfl) (by kernel_rfl) (by kernel_rfl) (by kernel_rfl) (fun _ _ _ h => h) (Or.inr ⟨by rfl, rfl⟩) hHeld ?_
    simp only [Act.put, List.setIfInBounds_toArray, List.set_cons_zero, List.set_cons_succ]
    refine Z.take (i := 17) (d := 22) (v := .bool true) rfl rfl (by kernel_rfl) (by kernel_rfl) (by kernel_rfl) (by kernel_rfl) (fun _ _ _ h => h) (Or.inl ⟨by rfl, ?_⟩) hHeld ?_
    · intro w' hSw; obtain ⟨s0, s1, s2, s3⟩ := Kn.four_co (OA.below hSw OA.lt); obtain ⟨r0, r1, r2, r3⟩ := Kn.four_co (OB.below hSw OB.lt); go_simp
    simp only [Act.put, List.setIfInBounds_toArray, List.set_cons_zero, List.set_cons_succ]
    refine Z.take (i := 18) (d := 23) (v := .agg #[.int .i64 0, .int .i64 PX, .int .i64 PY, .bool true]) rfl rfl (by kernel_rfl) (by kernel_rfl) (by kernel_rfl) (by kernel_rfl) (fun _ _ _ h => h) (Or.inl ⟨by rfl, ?_⟩) hHeld ?_
    · intro w' hSw; go_simp
    simp only [Act.put, List.setIfInBounds_toArray, List.set_cons_zero, List.set_cons_succ]
    have ORW := OR.below hHeld OR.lt
    have BRW : Below w.heap.size w W.drew := BN.drew
    clear OA OB OR BN
    generalize W.drew = WD at *
    obtain ⟨c0, c1, c2, c3⟩ := Kn.four_co ORW
    obtain ⟨z0, z1, z2, z3⟩ := Kn.four_fr ORW
    have O2 := hide (Kn.put4_own ORW (.int .i64 0) (.int .i64 PX) (.int .i64 PY) (.bool true))
    have B2 := hide (Kn.put4_below BRW (show w.heap.size ≤ w.heap.size + 1 + 1 by omega) (.int .i64 0) (.int .i64 PX) (.int .i64 PY) (.bool true))
    refine Z.last_at (w' := Kn.put4 WD (w.heap.size + 1 + 1) (.int .i64 0) (.int .i64 PX) (.int .i64 PY) (.bool true)) rfl (by kernel_rfl) (by rfl) (fun K hK => ?_) ?_
    · unfold Kn.put4 at hK
      go_simp
      exact hK.out
    refine Z.done (by kernel_rfl) ?_ _
    have q := Kn.four_co (unhide O2)
    have BF := unhide B2
    clear O2 B2 c0 c1 c2 c3 z0 z1 z2 z3 ORW BRW
    generalize Kn.put4 WD (w.heap.size + 1 + 1) (.int .i64 0) (.int .i64 PX) (.int .i64 PY) (.bool true) = WW at *
    obtain ⟨q0, q1, q2, q3⟩ := q
    go_wp2_with fail
    refine bodyPost_ret (v := .agg #[.int .i64 0, .int .i64 PX, .int .i64 PY, .bool true]) (by simp [results, Try.results38, go_sem, q0, q1, q2, q3]; try rfl) rfl ?_
    exact ⟨rfl, BF⟩
set_option maxRecDepth 100000 in
set_option maxHeartbeats 4000000 in
theorem l11Each_0 (al : Int) (af : Bool) (w : World) : Calls Try.prog 42 #[.agg #[.int .i64 0, .int .i64 al, .int .i64 0, .bool af]] w fun e w' => e = .returned (.agg #[.int .i64 0, .int .i64 0, .int .i64 0, .bool af]) ∧ Below w.heap.size w w' := by
  obtain ⟨W, hW⟩ : ∃ W, W = (w.alloc (.cells #[.int .i64 0, .int .i64 al, .int .i64 0, .bool af] 25)).alloc (.cells #[.int .i64 0, .int .i64 0, .int .i64 0, .bool false] 25) := ⟨_, rfl⟩
  have BRW : Below w.heap.size w W := by rw [hW]; exact Kn.bel2 _ _ _
  have OA : Own W w.heap.size 25 [.int .i64 0, .int .i64 al, .int .i64 0, .bool af] := by rw [hW]; exact Own.below (w := w.alloc _) ⟨_, heap_alloc_new _ _, rfl⟩ ((Below.refl _ _).alloc (Nat.le_refl _) _) (by simp)
  have ORW : Own W (w.heap.size + 1) 25 [.int .i64 0, .int .i64 0, .int .i64 0, .bool false] := by
    rw [hW]
    have h : Own ((w.alloc (.cells #[.int .i64 0, .int .i64 al, .int .i64 0, .bool af] 25)).alloc (.cells #[.int .i64 0, .int .i64 0, .int .i64 0, .bool false] 25)) (w.alloc (.cells #[.int .i64 0, .int .i64 al, .int .i64 0, .bool af] 25)).heap.size 25 [.int .i64 0, .int .i64 0, .int .i64 0, .bool false] := ⟨_, heap_alloc_new _ _, rfl⟩
    simpa using h
  obtain ⟨s0, s1, s2, s3⟩ := Kn.four_co OA
  go_enter Try.func42, Try.ntmps42
  go_upto_region 1 with fail
  rw [← hW]
  clear hW
  obtain ⟨c0, c1, c2, c3⟩ := Kn.four_co ORW
  obtain ⟨z0, z1, z2, z3⟩ := Kn.four_fr ORW
  have O2 := hide (Kn.put4_own ORW (.int .i64 0) (.int .i64 0) (.int .i64 0) (.bool af))
  have B2 := hide (Kn.put4_below BRW (show w.heap.size ≤ w.heap.size + 1 by omega) (.int .i64 0) (.int .i64 0) (.int .i64 0) (.bool af))
  go_wp2_with fail
  try rw [show ((((W).setCell ⟨w.heap.size + 1, 0, none⟩ (.int .i64 0)).setCell ⟨w.heap.size + 1, 1, none⟩ (.int .i64 0)).setCell ⟨w.heap.size + 1, 2, none⟩ (.int .i64 0)).setCell ⟨w.heap.size + 1, 3, none⟩ (.bool af) = Kn.put4 W (w.heap.size + 1) (.int .i64 0) (.int .i64 0) (.int .i64 0) (.bool af) from rfl]
  have q := Kn.four_co (unhide O2)
  have BF := unhide B2
  clear O2 B2 c0 c1 c2 c3 z0 z1 z2 z3 ORW BRW
  generalize Kn.put4 W (w.heap.size + 1) (.int .i64 0) (.int .i64 0) (.int .i64 0) (.bool af) = WW at *
  obtain ⟨q0, q1, q2, q3⟩ := q
  refine bodyPost_ret (v := .agg #[.int .i64 0, .int .i64 0, .int .i64 0, .bool af]) (by simp [results, Try.results42, go_sem, q0, q1, q2, q3]; try rfl) rfl ?_
  exact ⟨rfl, BF⟩
set_option maxRecDepth 100000 in
set_option maxHeartbeats 4000000 in
theorem l11Each_1 (al ah : Int) (af : Bool) (w : World) (h : (ah == 0) = false) : Calls Try.prog 42 #[.agg #[.int .i64 0, .int .i64 al, .int .i64 ah, .bool af]] w fun e w' => e = .returned (.agg #[.int .i64 0, .int .i64 0, .int .i64 1000, .bool true]) ∧ Below w.heap.size w w' := by
  obtain ⟨W, hW⟩ : ∃ W, W = (w.alloc (.cells #[.int .i64 0, .int .i64 al, .int .i64 ah, .bool af] 25)).alloc (.cells #[.int .i64 0, .int .i64 0, .int .i64 0, .bool false] 25) := ⟨_, rfl⟩
  have BRW : Below w.heap.size w W := by rw [hW]; exact Kn.bel2 _ _ _
  have OA : Own W w.heap.size 25 [.int .i64 0, .int .i64 al, .int .i64 ah, .bool af] := by rw [hW]; exact Own.below (w := w.alloc _) ⟨_, heap_alloc_new _ _, rfl⟩ ((Below.refl _ _).alloc (Nat.le_refl _) _) (by simp)
  have ORW : Own W (w.heap.size + 1) 25 [.int .i64 0, .int .i64 0, .int .i64 0, .bool false] := by
    rw [hW]
    have h : Own ((w.alloc (.cells #[.int .i64 0, .int .i64 al, .int .i64 ah, .bool af] 25)).alloc (.cells #[.int .i64 0, .int .i64 0, .int .i64 0, .bool false] 25)) (w.alloc (.cells #[.int .i64 0, .int .i64 al, .int .i64 ah, .bool af] 25)).heap.size 25 [.int .i64 0, .int .i64 0, .int .i64 0, .bool false] := ⟨_, heap_alloc_new _ _, rfl⟩
    simpa using h
  obtain ⟨s0, s1, s2, s3⟩ := Kn.four_co OA
  go_enter Try.func42, Try.ntmps42
  go_upto_region 1 with fail
  rw [← hW]
  clear hW
  obtain ⟨c0, c1, c2, c3⟩ := Kn.four_co ORW
  obtain ⟨z0, z1, z2, z3⟩ := Kn.four_fr ORW
  have O2 := hide (Kn.put4_own ORW (.int .i64 0) (.int .i64 0) (.int .i64 1000) (.bool true))
  have B2 := hide (Kn.put4_below BRW (show w.heap.size ≤ w.heap.size + 1 by omega) (.int .i64 0) (.int .i64 0) (.int .i64 1000) (.bool true))
  go_wp2_with fail
  try rw [show ((((W).setCell ⟨w.heap.size + 1, 0, none⟩ (.int .i64 0)).setCell ⟨w.heap.size + 1, 1, none⟩ (.int .i64 0)).setCell ⟨w.heap.size + 1, 2, none⟩ (.int .i64 1000)).setCell ⟨w.heap.size + 1, 3, none⟩ (.bool true) = Kn.put4 W (w.heap.size + 1) (.int .i64 0) (.int .i64 0) (.int .i64 1000) (.bool true) from rfl]
  have q := Kn.four_co (unhide O2)
  have BF := unhide B2
  clear O2 B2 c0 c1 c2 c3 z0 z1 z2 z3 ORW BRW
  generalize Kn.put4 W (w.heap.size + 1) (.int .i64 0) (.int .i64 0) (.int .i64 1000) (.bool true) = WW at *
  obtain ⟨q0, q1, q2, q3⟩ := q
  refine bodyPost_ret (v := .agg #[.int .i64 0, .int .i64 0, .int .i64 1000, .bool true]) (by simp [results, Try.results42, go_sem, q0, q1, q2, q3]; try rfl) rfl ?_
  exact ⟨rfl, BF⟩
set_option maxRecDepth 100000 in
set_option maxHeartbeats 4000000 in
theorem l11Alt_11 (al ah bl bh : Int) (af bf : Bool) (w : World) (h1 : 0 < ah) (h2 : 0 < bl) :
    Calls Try.prog 43 #[.agg #[.int .i64 0, .int .i64 al, .int .i64 ah, .bool af], .agg #[.int .i64 0, .int .i64 bl, .int .i64 bh, .bool bf]] w fun e w' => e = .returned (.agg #[.int .i64 0, .int .i64 1, .int .i64 (Kn.gt ah bh), .bool bf]) ∧ Below w.heap.size w w' := by
  have HX := hide (fun V => l1Max_kn ah bh V)
  generalize Kn.gt ah bh = PY at *
  obtain ⟨W, hW⟩ : ∃ W, W = ((w.alloc (.cells #[.int .i64 0, .int .i64 al, .int .i64 ah, .bool af] 25)).alloc (.cells #[.int .i64 0, .int .i64 bl, .int .i64 bh, .bool bf] 25)).alloc (.cells #[.int .i64 0, .int .i64 0, .int .i64 0, .bool false] 25) := ⟨_, rfl⟩
  have BN : Below w.heap.size w W := by rw [hW]; exact Kn.bel3 _ _ _ _
  have OA : Own W w.heap.size 25 [.int .i64 0, .int .i64 al, .int .i64 ah, .bool af] := by rw [hW]; exact Kn.new3a _ _ _ _ _
  have OB : Own W (w.heap.size + 1) 25 [.int .i64 0, .int .i64 bl, .int .i64 bh, .bool bf] := by rw [hW]; exact Kn.new3b _ _ _ _ _
  have OR : Own W (w.heap.size + 1 + 1) 25 [.int .i64 0, .int .i64 0, .int .i64 0, .bool false] := by rw [hW]; exact Kn.new3c _ _ _ _ _
  obtain ⟨s0, s1, s2, s3⟩ := Kn.four_co OA
  obtain ⟨r0, r1, r2, r3⟩ := Kn.four_co OB
  go_enter Try.func43, Try.ntmps43
  go_upto_region 1 with fail
  rw [← hW]
  clear hW
  go_upto_region 4 with fail
  clear s0 s1 s2 s3 r0 r1 r2 r3
  refine Z.region 9 (fun w' => Below W.heap.size W w') (by kernel_rfl) (Below.refl _ _).drew (fun hHeld => ?_)
  refine Z.take (i := 0) (d := 16) (v := .int .i64 1) rfl rfl (by kernel_rfl) (by kernel_rfl) (by kernel_rfl) (by kernel_rfl) (fun _ _ _ h => h) (Or.inl ⟨by rfl, ?_⟩) hHeld ?_
  · intro w' hSw; obtain ⟨s0, s1, s2, s3⟩ := Kn.four_co (OA.below hSw OA.lt); obtain ⟨r0, r1, r2, r3⟩ := Kn.four_co (OB.below hSw OB.lt); go_simp
  simp only [Act.put, List.setIfInBounds_toArray, List.set_cons_zero, List.set_cons_succ]
  refine Z.take (i := 1) (d := 17) (v := .pointer (some ⟨w.heap.size, 2, none⟩)) rfl rfl (by kernel_rfl) (by kernel_rfl) (by kernel_rfl) (by kernel_rfl) (fun _ _ _ h => h) (Or.inl ⟨by rfl, ?_⟩) hHeld ?_
  · intro w' hSw; obtain ⟨s0, s1, s2, s3⟩ := Kn.four_co (OA.below hSw OA.lt); obtain ⟨r0, r1, r2, r3⟩ := Kn.four_co (OB.below hSw OB.lt); go_simp
  simp only [Act.put, List.setIfInBounds_toArray, List.set_cons_zero, List.set_cons_succ]
  refine Z.take (i := 2) (d := 18) (v := .int .i64 ah) rfl rfl (by kernel_rfl) (by kernel_rfl) (by kernel_rfl) (by kernel_rfl) (fun _ _ _ h => h) (Or.inl ⟨by rfl, ?_⟩) hHeld ?_
  · intro w' hSw; obtain ⟨s0, s1, s2, s3⟩ := Kn.four_co (OA.below hSw OA.lt); obtain ⟨r0, r1, r2, r3⟩ := Kn.four_co (OB.below hSw OB.lt); go_simp
  simp only [Act.put, List.setIfInBounds_toArray, List.set_cons_zero, List.set_cons_succ]
  refine Z.take (i := 3) (d := 19) (v := .pointer (some ⟨w.heap.size + 1, 2, none⟩)) rfl rfl (by kernel_rfl) (by kernel_rfl) (by kernel_rfl) (by kernel_rfl) (fun _ _ _ h => h) (Or.inl ⟨by rfl, ?_⟩) hHeld ?_
  · intro w' hSw; obtain ⟨s0, s1, s2, s3⟩ := Kn.four_co (OA.below hSw OA.lt); obtain ⟨r0, r1, r2, r3⟩ := Kn.four_co (OB.below hSw OB.lt); go_simp
  simp only [Act.put, List.setIfInBounds_toArray, List.set_cons_zero, List.set_cons_succ]
  refine Z.take (i := 4) (d := 20) (v := .int .i64 bh) rfl rfl (by kernel_rfl) (by kernel_rfl) (by kernel_rfl) (by kernel_rfl) (fun _ _ _ h => h) (Or.inl ⟨by rfl, ?_⟩) hHeld ?_
  · intro w' hSw; obtain ⟨s0, s1, s2, s3⟩ := Kn.four_co (OA.below hSw OA.lt); obtain ⟨r0, r1, r2, r3⟩ := Kn.four_co (OB.below hSw OB.lt); go_simp
  simp only [Act.put, List.setIfInBounds_toArray, List.set_cons_zero, List.set_cons_succ]
  refine Z.take (i := 6) (d := 22) (v := .pointer (some ⟨w.heap.size + 1, 3, none⟩)) rfl rfl (by kernel_rfl) (by kernel_rfl) (by kernel_rfl) (by kernel_rfl) (fun _ _ _ h => h) (Or.inl ⟨by rfl, ?_⟩) hHeld ?_
  · intro w' hSw; obtain ⟨s0, s1, s2, s3⟩ := Kn.four_co (OA.below hSw OA.lt); obtain ⟨r0, r1, r2, r3⟩ := Kn.four_co (OB.below hSw OB.lt); go_simp
  simp only [Act.put, List.setIfInBounds_toArray, List.set_cons_zero, List.set_cons_succ]
  refine Z.take (i := 7) (d := 23) (v := .bool bf) rfl rfl (by kernel_rfl) (by kernel_rfl) (by kernel_rfl) (by kernel_rfl) (fun _ _ _ h => h) (Or.inl ⟨by rfl, ?_⟩) hHeld ?_
  · intro w' hSw; obtain ⟨s0, s1, s2, s3⟩ := Kn.four_co (OA.below hSw OA.lt); obtain ⟨r0, r1, r2, r3⟩ := Kn.four_co (OB.below hSw OB.lt); go_simp
  simp only [Act.put, List.setIfInBounds_toArray, List.set_cons_zero, List.set_cons_succ]
  refine Z.call1 (i := 5) (d := 21) rfl rfl (by kernel_rfl) (by rfl) (fun K hK => ?_)
  go_simp
  refine ((unhide HX) _).mono ?_
  rintro e wz ⟨rfl, hwz⟩
  subst wz
  go_simp
  refine hK.out (.int .i64 PY) _ hHeld ?_
  clear hK K
  simp only [Act.put, List.setIfInBounds_toArray, List.set_cons_zero, List.set_cons_succ]
  refine Z.take (i := 8) (d := 24) (v := .agg #[.int .i64 0, .int .i64 1, .int .i64 PY, .bool bf]) rfl rfl (by kernel_rfl) (by kernel_rfl) (by kernel_rfl) (by kernel_rfl) (fun _ _ _ h => h) (Or.inl ⟨by rfl, ?_⟩) hHeld ?_
  · intro w' hSw; go_simp
  simp only [Act.put, List.setIfInBounds_toArray, List.set_cons_zero, List.set_cons_succ]
  have ORW := OR.below hHeld OR.lt
  have BRW : Below w.heap.size w W.drew := BN.drew
  clear OA OB OR BN
  generalize W.drew = WD at *
  obtain ⟨c0, c1, c2, c3⟩ := Kn.four_co ORW
  obtain ⟨z0, z1, z2, z3⟩ := Kn.four_fr ORW
  have O2 := hide (Kn.put4_own ORW (.int .i64 0) (.int .i64 1) (.int .i64 PY) (.bool bf))
  have B2 := hide (Kn.put4_below BRW (show w.heap.size ≤ w.heap.size + 1 + 1 by omega) (.int .i64 0) (.int .i64 1) (.int .i64 PY) (.bool bf))
  refine Z.last_at (w' := Kn.put4 WD (w.heap.size + 1 + 1) (.int .i64 0) (.int .i64 1) (.int .i64 PY) (.bool bf)) rfl (by kernel_rfl) (by rfl) (fun K hK => ?_) ?_
  · unfold Kn.put4 at hK
    go_simp
    exact hK.out
  refine Z.done (by kernel_rfl) ?_ _
  have q := Kn.four_co (unhide O2)
  have BF := unhide B2
  clear O2 B2 c0 c1 c2 c3 z0 z1 z2 z3 ORW BRW
  generalize Kn.put4 WD (w.heap.size + 1 + 1) (.int .i64 0) (.int .i64 1) (.int .i64 PY) (.bool bf) = WW at *
  obtain ⟨q0, q1, q2, q3⟩ := q
  go_wp2_with fail
  refine bodyPost_ret (v := .agg #[.int .i64 0, .int .i64 1, .int .i64 PY, .bool bf]) (by simp [results, Try.results43, go_sem, q0, q1, q2, q3]; try rfl) rfl ?_
  exact ⟨rfl, BF⟩
set_option maxRecDepth 100000 in
set_option maxHeartbeats 4000000 in
theorem l11Alt_10 (al ah bl bh : Int) (af bf : Bool) (w : World) (h1 : 0 < ah) (h2 : ¬ 0 < bl) :
    Calls Try.prog 43 #[.agg #[.int .i64 0, .int .i64 al, .int .i64 ah, .bool af], .agg #[.int .i64 0, .int .i64 bl, .int .i64 bh, .bool bf]] w fun e w' => e = .returned (.agg #[.int .i64 0, .int .i64 bl, .int .i64 (Kn.gt ah bh), .bool bf]) ∧ Below w.heap.size w w' := by
  have HX := hide (fun V => l1Max_kn ah bh V)
  generalize Kn.gt ah bh = PY at *
  obtain ⟨W, hW⟩ : ∃ W, W = ((w.alloc (.cells #[.int .i64 0, .int .i64 al, .int .i64 ah, .bool af] 25)).alloc (.cells #[.int .i64 0, .int .i64 bl, .int .i64 bh, .bool bf] 25)).alloc (.cells #[.int .i64 0, .int .i64 0, .int .i64 0, .bool false] 25) := ⟨_, rfl⟩
  have BN : Below w.heap.size w W := by rw [hW]; exact Kn.bel3 _ _ _ _
  have OA : Own W w.heap.size 25 [.int .i64 0, .int .i64 al, .int .i64 ah, .bool af] := by rw [hW]; exact Kn.new3a _ _ _ _ _
  have OB : Own W (w.heap.size + 1) 25 [.int .i64 0, .int .i64 bl, .int .i64 bh, .bool bf] := by rw [hW]; exact Kn.new3b _ _ _ _ _
  have OR : Own W (w.heap.size + 1 + 1) 25 [.int .i64 0, .int .i64 0, .int .i64 0, .bool false] := by rw [hW]; exact Kn.new3c _ _ _ _ _
  obtain ⟨s0, s1, s2, s3⟩ := Kn.four_co OA
  obtain ⟨r0, r1, r2, r3⟩ := Kn.four_co OB
  go_enter Try.func43, Try.ntmps43
  go_upto_region 1 with fail
  rw [← hW]
  clear hW
  go_upto_region 4 with fail
  clear s0 s1 s2 s3 r0 r1 r2 r3
  refine Z.region 9 (fun w' => Below W.heap.size W w') (by kernel_rfl) (Below.refl _ _).drew (fun hHeld => ?_)
  refine Z.take (i := 0) (d := 16) (v := .int .i64 bl) rfl rfl (by kernel_rfl) (by kernel_rfl) (by kernel_rfl) (by kernel_rfl) (fun _ _ _ h => h) (Or.inl ⟨by rfl, ?_⟩) hHeld ?_
  · intro w' hSw; obtain ⟨s0, s1, s2, s3⟩ := Kn.four_co (OA.below hSw OA.lt); obtain ⟨r0, r1, r2, r3⟩ := Kn.four_co (OB.below hSw OB.lt); go_simp
  simp only [Act.put, List.setIfInBounds_toArray, List.set_cons_zero, List.set_cons_succ]
  refine Z.take (i := 1) (d := 17) (v := .pointer (some ⟨w.heap.size, 2, none⟩)) rfl rfl (by kernel_rfl) (by kernel_rfl) (by kernel_rfl) (by kernel_rfl) (fun _ _ _ h => h) (Or.inl ⟨by rfl, ?_⟩) hHeld ?_
  · intro w' hSw; obtain ⟨s0, s1, s2, s3⟩ := Kn.four_co (OA.below hSw OA.lt); obtain ⟨r0, r1, r2, r3⟩ := Kn.four_co (OB.below hSw OB.lt); go_simp
  simp only [Act.put, List.setIfInBounds_toArray, List.set_cons_zero, List.set_cons_succ]
  refine Z.take (i := 2) (d := 18) (v := .int .i64 ah) rfl rfl (by kernel_rfl) (by kernel_rfl) (by kernel_rfl) (by kernel_rfl) (fun _ _ _ h => h) (Or.inl ⟨by rfl, ?_⟩) hHeld ?_
  · intro w' hSw; obtain ⟨s0, s1, s2, s3⟩ := Kn.four_co (OA.below hSw OA.lt); obtain ⟨r0, r1, r2, r3⟩ := Kn.four_co (OB.below hSw OB.lt); go_simp
  simp only [Act.put, List.setIfInBounds_toArray, List.set_cons_zero, List.set_cons_succ]
  refine Z.take (i := 3) (d := 19) (v := .pointer (some ⟨w.heap.size + 1, 2, none⟩)) rfl rfl (by kernel_rfl) (by kernel_rfl) (by kernel_rfl) (by kernel_rfl) (fun _ _ _ h => h) (Or.inl ⟨by rfl, ?_⟩) hHeld ?_
  · intro w' hSw; obtain ⟨s0, s1, s2, s3⟩ := Kn.four_co (OA.below hSw OA.lt); obtain ⟨r0, r1, r2, r3⟩ := Kn.four_co (OB.below hSw OB.lt); go_simp
  simp only [Act.put, List.setIfInBounds_toArray, List.set_cons_zero, List.set_cons_succ]
  refine Z.take (i := 4) (d := 20) (v := .int .i64 bh) rfl rfl (by kernel_rfl) (by kernel_rfl) (by kernel_rfl) (by kernel_rfl) (fun _ _ _ h => h) (Or.inl ⟨by rfl, ?_⟩) hHeld ?_
  · intro w' hSw; obtain ⟨s0, s1, s2, s3⟩ := Kn.four_co (OA.below hSw OA.lt); obtain ⟨r0, r1, r2, r3⟩ := Kn.four_co (OB.below hSw OB.lt); go_simp
  simp only [Act.put, List.setIfInBounds_toArray, List.set_cons_zero, List.set_cons_succ]
  refine Z.take (i := 6) (d := 22) (v := .pointer (some ⟨w.heap.size + 1, 3, none⟩)) rfl rfl (by kernel_rfl) (by kernel_rfl) (by kernel_rfl) (by kernel_rfl) (fun _ _ _ h => h) (Or.inl ⟨by rfl, ?_⟩) hHeld ?_
  · intro w' hSw; obtain ⟨s0, s1, s2, s3⟩ := Kn.four_co (OA.below hSw OA.lt); obtain ⟨r0, r1, r2, r3⟩ := Kn.four_co (OB.below hSw OB.lt); go_simp
  simp only [Act.put, List.setIfInBounds_toArray, List.set_cons_zero, List.set_cons_succ]
  refine Z.take (i := 7) (d := 23) (v := .bool bf) rfl rfl (by kernel_rfl) (by kernel_rfl) (by kernel_rfl) (by kernel_rfl) (fun _ _ _ h => h) (Or.inl ⟨by rfl, ?_⟩) hHeld ?_
  · intro w' hSw; obtain ⟨s0, s1, s2, s3⟩ := Kn.four_co (OA.below hSw OA.lt); obtain ⟨r0, r1, r2, r3⟩ := Kn.four_co (OB.below hSw OB.lt); go_simp
  simp only [Act.put, List.setIfInBounds_toArray, List.set_cons_zero, List.set_cons_succ]
  refine Z.call1 (i := 5) (d := 21) rfl rfl (by kernel_rfl) (by rfl) (fun K hK => ?_)
  go_simp
  refine ((unhide HX) _).mono ?_
  rintro e wz ⟨rfl, hwz⟩
  subst wz
  go_simp
  refine hK.out (.int .i64 PY) _ hHeld ?_
  clear hK K
  simp only [Act.put, List.setIfInBounds_toArray, List.set_cons_zero, List.set_cons_succ]
  refine Z.take (i := 8) (d := 24) (v := .agg #[.int .i64 0, .int .i64 bl, .int .i64 PY, .bool bf]) rfl rfl (by kernel_rfl) (by kernel_rfl) (by kernel_rfl) (by kernel_rfl) (fun _ _ _ h => h) (Or.inl ⟨by rfl, ?_⟩) hHeld ?_
  · intro w' hSw; go_simp
  simp only [Act.put, List.setIfInBounds_toArray, List.set_cons_zero, List.set_cons_succ]
  have ORW := OR.below hHeld OR.lt
  have BRW : Below w.heap.size w W.drew := BN.drew
  clear OA OB OR BN
  generalize W.drew = WD at *
  obtain ⟨c0, c1, c2, c3⟩ := Kn.four_co ORW
  obtain ⟨z0, z1, z2, z3⟩ := Kn.four_fr ORW
  have O2 := hide (Kn.put4_own ORW (.int .i64 0) (.int .i64 bl) (.int .i64 PY) (.bool bf))
  have B2 := hide (Kn.put4_below BRW (show w.heap.size ≤ w.heap.size + 1 + 1 by omega) (.int .i64 0) (.int .i64 bl) (.int .i64 PY) (.bool bf))
  refine Z.last_at (w' := Kn.put4 WD (w.heap.size + 1 + 1) (.int .i64 0) (.int .i64 bl) (.int .i64 PY) (.bool bf)) rfl (by kernel_rfl) (by rfl) (fun K hK => ?_) ?_
  · unfold Kn.put4 at hK
    go_simp
    exact hK.out
  refine Z.done (by kernel_rfl) ?_ _
  have q := Kn.four_co (unhide O2)
  have BF := unhide B2
  clear O2 B2 c0 c1 c2 c3 z0 z1 z2 z3 ORW BRW
  generalize Kn.put4 WD (w.heap.size + 1 + 1) (.int .i64 0) (.int .i64 bl) (.int .i64 PY) (.bool bf) = WW at *
  obtain ⟨q0, q1, q2, q3⟩ := q
  go_wp2_with fail
  refine bodyPost_ret (v := .agg #[.int .i64 0, .int .i64 bl, .int .i64 PY, .bool bf]) (by simp [results, Try.results43, go_sem, q0, q1, q2, q3]; try rfl) rfl ?_
  exact ⟨rfl, BF⟩
set_option maxRecDepth 100000 in
set_option maxHeartbeats 4000000 in
theorem l11Alt_0 (al ah bl bh : Int) (af bf : Bool) (w : World) (h1 : ¬ 0 < ah) :
    Calls Try.prog 43 #[.agg #[.int .i64 0, .int .i64 al, .int .i64 ah, .bool af], .agg #[.int .i64 0, .int .i64 bl, .int .i64 bh, .bool bf]] w fun e w' => e = .returned (.agg #[.int .i64 0, .int .i64 bl, .int .i64 (Kn.gt ah bh), .bool bf]) ∧ Below w.heap.size w w' := by
  have HX := hide (fun V => l1Max_kn ah bh V)
  generalize Kn.gt ah bh = PY at *
  obtain ⟨W, hW⟩ : ∃ W, W = ((w.alloc (.cells #[.int .i64 0, .int .i64 al, .int .i64 ah, .bool af] 25)).alloc (.cells #[.int .i64 0, .int .i64 bl, .int .i64 bh, .bool bf] 25)).alloc (.cells #[.int .i64 0, .int .i64 0, .int .i64 0, .bool false] 25) := ⟨_, rfl⟩
  have BN : Below w.heap.size w W := by rw [hW]; exact Kn.bel3 _ _ _ _
  have OA : Own W w.heap.size 25 [.int .i64 0, .int .i64 al, .int .i64 ah, .bool af] := by rw [hW]; exact Kn.new3a _ _ _ _ _
  have OB : Own W (w.heap.size + 1) 25 [.int .i64 0, .int .i64 bl, .int .i64 bh, .bool bf] := by rw [hW]; exact Kn.new3b _ _ _ _ _
  have OR : Own W (w.heap.size + 1 + 1) 25 [.int .i64 0, .int .i64 0, .int .i64 0, .bool false] := by rw [hW]; exact Kn.new3c _ _ _ _ _
  obtain ⟨s0, s1, s2, s3⟩ := Kn.four_co OA
  obtain ⟨r0, r1, r2, r3⟩ := Kn.four_co OB
  go_enter Try.func43, Try.ntmps43
  go_upto_region 1 with fail
  rw [← hW]
  clear hW
  go_upto_region 4 with fail
  clear s0 s1 s2 s3 r0 r1 r2 r3
  refine Z.region 9 (fun w' => Below W.heap.size W w') (by kernel_rfl) (Below.refl _ _).drew (fun hHeld => ?_)
  refine Z.take (i := 0) (d := 16) (v := .int .i64 bl) rfl rfl (by kernel_rfl) (by kernel_rfl) (by kernel_rfl) (by kernel_rfl) (fun _ _ _ h => h) (Or.inl ⟨by rfl, ?_⟩) hHeld ?_
  · intro w' hSw; obtain ⟨s0, s1, s2, s3⟩ := Kn.four_co (OA.below hSw OA.lt); obtain ⟨r0, r1, r2, r3⟩ := Kn.four_co (OB.below hSw OB.lt); go_simp
  simp only [Act.put, List.setIfInBounds_toArray, List.set_cons_zero, List.set_cons_succ]
  refine Z.take (i := 1) (d := 17) (v := .pointer (some ⟨w.heap.size, 2, none⟩)) rfl rfl (by kernel_rfl) (by kernel_rfl) (by kernel_rfl) (by kernel_rfl) (fun _ _ _ h => h) (Or.inl ⟨by rfl, ?_⟩) hHeld ?_
  · intro w' hSw; obtain ⟨s0, s1, s2, s3⟩ := Kn.four_co (OA.below hSw OA.lt); obtain ⟨r0, r1, r2, r3⟩ := Kn.four_co (OB.below hSw OB.lt); go_simp
  simp only [Act.put, List.setIfInBounds_toArray, List.set_cons_zero, List.set_cons_succ]
  refine Z.take (i := 2) (d := 18) (v := .int .i64 ah) rfl rfl (by kernel_rfl) (by kernel_rfl) (by kernel_rfl) (by kernel_rfl) (fun _ _ _ h => h) (Or.inl ⟨by rfl, ?_⟩) hHeld ?_
  · intro w' hSw; obtain ⟨s0, s1, s2, s3⟩ := Kn.four_co (OA.below hSw OA.lt); obtain ⟨r0, r1, r2, r3⟩ := Kn.four_co (OB.below hSw OB.lt); go_simp
  simp only [Act.put, List.setIfInBounds_toArray, List.set_cons_zero, List.set_cons_succ]
  refine Z.take (i := 3) (d := 19) (v := .pointer (some ⟨w.heap.size + 1, 2, none⟩)) rfl rfl (by kernel_rfl) (by kernel_rfl) (by kernel_rfl) (by kernel_rfl) (fun _ _ _ h => h) (Or.inl ⟨by rfl, ?_⟩) hHeld ?_
  · intro w' hSw; obtain ⟨s0, s1, s2, s3⟩ := Kn.four_co (OA.below hSw OA.lt); obtain ⟨r0, r1, r2, r3⟩ := Kn.four_co (OB.below hSw OB.lt); go_simp
  simp only [Act.put, List.setIfInBounds_toArray, List.set_cons_zero, List.set_cons_succ]
  refine Z.take (i := 4) (d := 20) (v := .int .i64 bh) rfl rfl (by kernel_rfl) (by kernel_rfl) (by kernel_rfl) (by kernel_rfl) (fun _ _ _ h => h) (Or.inl ⟨by rfl, ?_⟩) hHeld ?_
  · intro w' hSw; obtain ⟨s0, s1, s2, s3⟩ := Kn.four_co (OA.below hSw OA.lt); obtain ⟨r0, r1, r2, r3⟩ := Kn.four_co (OB.below hSw OB.lt); go_simp
  simp only [Act.put, List.setIfInBounds_toArray, List.set_cons_zero, List.set_cons_succ]
  refine Z.take (i := 6) (d := 22) (v := .pointer (some ⟨w.heap.size + 1, 3, none⟩)) rfl rfl (by kernel_rfl) (by kernel_rfl) (by kernel_rfl) (by kernel_rfl) (fun _ _ _ h => h) (Or.inl ⟨by rfl, ?_⟩) hHeld ?_
  · intro w' hSw; obtain ⟨s0, s1, s2, s3⟩ := Kn.four_co (OA.below hSw OA.lt); obtain ⟨r0, r1, r2, r3⟩ := Kn.four_co (OB.below hSw OB.lt); go_simp
  simp only [Act.put, List.setIfInBounds_toArray, List.set_cons_zero, List.set_cons_succ]
  refine Z.take (i := 7) (d := 23) (v := .bool bf) rfl rfl (by kernel_rfl) (by kernel_rfl) (by kernel_rfl) (by kernel_rfl) (fun _ _ _ h => h) (Or.inl ⟨by rfl, ?_⟩) hHeld ?_
  · intro w' hSw; obtain ⟨s0, s1, s2, s3⟩ := Kn.four_co (OA.below hSw OA.lt); obtain ⟨r0, r1, r2, r3⟩ := Kn.four_co (OB.below hSw OB.lt); go_simp
  simp only [Act.put, List.setIfInBounds_toArray, List.set_cons_zero, List.set_cons_succ]
  refine Z.call1 (i := 5) (d := 21) rfl rfl (by kernel_rfl) (by rfl) (fun K hK => ?_)
  go_simp
  refine ((unhide HX) _).mono ?_
  rintro e wz ⟨rfl, hwz⟩
  subst wz
  go_simp
  refine hK.out (.int .i64 PY) _ hHeld ?_
  clear hK K
  simp only [Act.put, List.setIfInBounds_toArray, List.set_cons_zero, List.set_cons_succ]
  refine Z.take (i := 8) (d := 24) (v := .agg #[.int .i64 0, .int .i64 bl, .int .i64 PY, .bool bf]) rfl rfl (by kernel_rfl) (by kernel_rfl) (by kernel_rfl) (by kernel_rfl) (fun _ _ _ h => h) (Or.inl ⟨by rfl, ?_⟩) hHeld ?_
  · intro w' hSw; go_simp
  simp only [Act.put, List.setIfInBounds_toArray, List.set_cons_zero, List.set_cons_succ]
  have ORW := OR.below hHeld OR.lt
  have BRW : Below w.heap.size w W.drew := BN.drew
  clear OA OB OR BN
  generalize W.drew = WD at *
  obtain ⟨c0, c1, c2, c3⟩ := Kn.four_co ORW
  obtain ⟨z0, z1, z2, z3⟩ := Kn.four_fr ORW
  have O2 := hide (Kn.put4_own ORW (.int .i64 0) (.int .i64 bl) (.int .i64 PY) (.bool bf))
  have B2 := hide (Kn.put4_below BRW (show w.heap.size ≤ w.heap.size + 1 + 1 by omega) (.int .i64 0) (.int .i64 bl) (.int .i64 PY) (.bool bf))
  refine Z.last_at (w' := Kn.put4 WD (w.heap.size + 1 + 1) (.int .i64 0) (.int .i64 bl) (.int .i64 PY) (.bool bf)) rfl (by kernel_rfl) (by rfl) (fun K hK => ?_) ?_
  · unfold Kn.put4 at hK
    go_simp
    exact hK.out
  refine Z.done (by kernel_rfl) ?_ _
  have q := Kn.four_co (unhide O2)
  have BF := unhide B2
  clear O2 B2 c0 c1 c2 c3 z0 z1 z2 z3 ORW BRW
  generalize Kn.put4 WD (w.heap.size + 1 + 1) (.int .i64 0) (.int .i64 bl) (.int .i64 PY) (.bool bf) = WW at *
  obtain ⟨q0, q1, q2, q3⟩ := q
  go_wp2_with fail
  refine bodyPost_ret (v := .agg #[.int .i64 0, .int .i64 bl, .int .i64 PY, .bool bf]) (by simp [results, Try.results43, go_sem, q0, q1, q2, q3]; try rfl) rfl ?_
  exact ⟨rfl, BF⟩

end Go.Proofs.Ytkjmnkbiflkpdaa

namespace Go.Proofs.Ytkjmnkbiflkpdaa
open Go.RowKit
set_option linter.unusedVariables false
set_option linter.unusedSimpArgs false

namespace Kn
/-- The variables of the model's walk: the answer, the node, what makes one, what is told of the first and of the second part. -/
structure Led (w V : World) (ns os qa qb : List Value) : Prop where
  be : Below w.heap.size w V
  r : Own V w.heap.size 25 [.int .i64 0, .int .i64 0, .int .i64 0, .bool false]
  n : Own V (w.heap.size + 1) 48 ns
  o : Own V (w.heap.size + 2) 25 os
  a : Own V (w.heap.size + 3) 25 qa
  b : Own V (w.heap.size + 4) 25 qb
theorem Led.call {w V V' : World} {ns os qa qb : List Value} (h : Led w V ns os qa qb) (hb : Below V.heap.size V V') : Led w V' ns os qa qb :=
  ⟨h.be.trans (hb.mono h.be.size), h.r.below hb h.r.lt, h.n.below hb h.n.lt, h.o.below hb h.o.lt, h.a.below hb h.a.lt, h.b.below hb h.b.lt⟩
theorem Led.setA {w V : World} {ns os qb : List Value} {x0 y0 z0 u0 : Value} (h : Led w V ns os [x0, y0, z0, u0] qb) (x y z u : Value) : Led w (put4 V (w.heap.size + 3) x y z u) ns os [x, y, z, u] qb :=
  ⟨put4_below h.be (by omega) _ _ _ _, put4_far h.r (by omega) _ _ _ _, put4_far h.n (by omega) _ _ _ _, put4_far h.o (by omega) _ _ _ _, put4_own h.a _ _ _ _, put4_far h.b (by omega) _ _ _ _⟩
theorem Led.setB {w V : World} {ns os qa : List Value} {x0 y0 z0 u0 : Value} (h : Led w V ns os qa [x0, y0, z0, u0]) (x y z u : Value) : Led w (put4 V (w.heap.size + 4) x y z u) ns os qa [x, y, z, u] :=
  ⟨put4_below h.be (by omega) _ _ _ _, put4_far h.r (by omega) _ _ _ _, put4_far h.n (by omega) _ _ _ _, put4_far h.o (by omega) _ _ _ _, put4_far h.a (by omega) _ _ _ _, put4_own h.b _ _ _ _⟩
theorem Led.own {w V : World} {b : Nat} {t : TypeId} {xs : List Value} (h : Own V b t xs) (c : Nat) (hc : b ≠ c) (j : Nat) (x : Value) : Own (V.setCell ⟨c, j, none⟩ x) b t xs := h.setOther ⟨c, j, none⟩ x hc
theorem Led.first (w : World) (ns : List Value) (hn : ns.length = 6) : Led w (((((w.alloc (.cells #[.int .i64 0, .int .i64 0, .int .i64 0, .bool false] 25)).alloc (.cells ns.toArray 48)).alloc (.cells #[.int .i64 0, .int .i64 1, .int .i64 1, .bool false] 25)).alloc (.cells #[.int .i64 0, .int .i64 0, .int .i64 0, .bool false] 25)).alloc (.cells #[.int .i64 0, .int .i64 0, .int .i64 0, .bool false] 25))
    ns [.int .i64 0, .int .i64 1, .int .i64 1, .bool false] [.int .i64 0, .int .i64 0, .int .i64 0, .bool false] [.int .i64 0, .int .i64 0, .int .i64 0, .bool false] := by
  have al : ∀ (V : World) (o : Obj), Below V.heap.size V (V.alloc o) := fun V o => (Below.refl _ _).alloc (Nat.le_refl _) o
  have nw : ∀ (V : World) (c : Array Value) (t : TypeId), Own (V.alloc (.cells c t)) V.heap.size t c.toList := fun V c t => ⟨_, heap_alloc_new _ _, rfl⟩
  have kp : ∀ {V : World} {b : Nat} {t : TypeId} {xs : List Value} (o : Obj), Own V b t xs → Own (V.alloc o) b t xs := fun o h => h.below (al _ o) h.lt
  have h0 := nw w #[.int .i64 0, .int .i64 0, .int .i64 0, .bool false] 25
  obtain ⟨w1, e1⟩ : ∃ w1, w1 = w.alloc (.cells #[.int .i64 0, .int .i64 0, .int .i64 0, .bool false] 25) := ⟨_, rfl⟩
  have s1 : w1.heap.size = w.heap.size + 1 := by rw [e1]; simp
  have b1 : Below w.heap.size w w1 := by rw [e1]; exact al _ _
  rw [← e1] at h0 ⊢
  have h1 := nw w1 ns.toArray 48
  obtain ⟨w2, e2⟩ : ∃ w2, w2 = w1.alloc (.cells ns.toArray 48) := ⟨_, rfl⟩
  have s2 : w2.heap.size = w.heap.size + 2 := by rw [e2]; simp; omega
  have h02 := kp (.cells ns.toArray 48) h0
  have b2 : Below w.heap.size w w2 := by rw [e2]; exact b1.trans ((al _ _).mono (by omega))
  rw [← e2] at h1 h02 ⊢
  have h2 := nw w2 #[.int .i64 0, .int .i64 1, .int .i64 1, .bool false] 25
  obtain ⟨w3, e3⟩ : ∃ w3, w3 = w2.alloc (.cells #[.int .i64 0, .int .i64 1, .int .i64 1, .bool false] 25) := ⟨_, rfl⟩
  have s3 : w3.heap.size = w.heap.size + 3 := by rw [e3]; simp; omega
  have h03 := kp (.cells #[.int .i64 0, .int .i64 1, .int .i64 1, .bool false] 25) h02
  have h13 := kp (.cells #[.int .i64 0, .int .i64 1, .int .i64 1, .bool false] 25) h1
  have b3 : Below w.heap.size w w3 := by rw [e3]; exact b2.trans ((al _ _).mono (by omega))
  rw [← e3] at h2 h03 h13 ⊢
  have h3 := nw w3 #[.int .i64 0, .int .i64 0, .int .i64 0, .bool false] 25
  obtain ⟨w4, e4⟩ : ∃ w4, w4 = w3.alloc (.cells #[.int .i64 0, .int .i64 0, .int .i64 0, .bool false] 25) := ⟨_, rfl⟩
  have s4 : w4.heap.size = w.heap.size + 4 := by rw [e4]; simp; omega
  have h04 := kp (.cells #[.int .i64 0, .int .i64 0, .int .i64 0, .bool false] 25) h03
  have h14 := kp (.cells #[.int .i64 0, .int .i64 0, .int .i64 0, .bool false] 25) h13
  have h24 := kp (.cells #[.int .i64 0, .int .i64 0, .int .i64 0, .bool false] 25) h2
  have b4 : Below w.heap.size w w4 := by rw [e4]; exact b3.trans ((al _ _).mono (by omega))
  rw [← e4] at h3 h04 h14 h24 ⊢
  have h4 := nw w4 #[.int .i64 0, .int .i64 0, .int .i64 0, .bool false] 25
  rw [s1] at h14
  rw [s2] at h24
  rw [s3] at h3
  rw [s4] at h4
  exact ⟨b4.trans ((al _ _).mono (by omega)), kp _ h04, kp _ h14, kp _ h24, kp _ h3, h4⟩
theorem six_co {w : World} {b : Nat} {x0 x1 x2 x3 x4 x5 : Value} (h : Own w b 48 [x0, x1, x2, x3, x4, x5]) : w.cell? ⟨b, 0, none⟩ = some x0 ∧ w.cell? ⟨b, 1, none⟩ = some x1 ∧ w.cell? ⟨b, 2, none⟩ = some x2 ∧ w.cell? ⟨b, 3, none⟩ = some x3 ∧ w.cell? ⟨b, 4, none⟩ = some x4 ∧ w.cell? ⟨b, 5, none⟩ = some x5 := ⟨h.cell 0, h.cell 1, h.cell 2, h.cell 3, h.cell 4, h.cell 5⟩
/-- What the model answers of a node. -/
def ans (k : Kn) : Value := .agg #[.int .i64 0, .int .i64 k.lo, .int .i64 k.hi, .bool k.fa]
theorem ans_eq {k : Kn} {lo hi : Int} {fa : Bool} (h : t3 k = (lo, hi, fa)) : ans k = .agg #[.int .i64 0, .int .i64 lo, .int .i64 hi, .bool fa] := by
  unfold t3 at h
  injection h with h1 h2
  injection h2 with h2 h3
  unfold ans
  rw [h1, h2, h3]
end Kn

end Go.Proofs.Ytkjmnkbiflkpdaa
